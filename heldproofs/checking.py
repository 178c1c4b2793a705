"""Whether a derivation shows a claim."""

from heldproofs.counts import Count, row_counts
from heldproofs.errors import DerivationError
from heldproofs.rows import premises, rows_along
from heldproofs.rules import premise_scopes, rule_of, scope_of


def check(library, claim, derivation):
    """Raise the first fault of a derivation, if it does not show the claim."""
    holds, goal = claim
    found = check_part(library, (scope_of(claim), 0), goal, derivation, ())
    for name, kind, _ in holds:
        check_use(found, name, kind, ())


def check_part(library, place, goal, row, path):
    """Check a part at a place, which is a scope and a level; the counts of what the part uses."""
    scope, level = place
    goals, brought = rule_of(library, scope, goal, row, path)
    above = []
    for inner, aim, premise in zip(premise_scopes(scope, level, goals, brought), goals, premises(row)):
        above.append(check_part(library, inner, aim, premise, path + (len(above),)))
    if brought is not None:
        check_use(above[-1], level, brought[0], path)
    return row_counts(row, level, above)


def check_use(found, ref, kind, path):
    """Raise a fault if a hold is not used as its kind asks."""
    if not found.get(ref, Count(0, 0, 0)).fits(kind):
        raise DerivationError(path, "use")


def accepts(library, claim, derivation):
    """Whether a derivation shows a claim."""
    try:
        check(library, claim, derivation)
    except DerivationError:
        return False
    return True


def claim_at(library, claim, derivation, path):
    """The list of all holds in scope at a place of an accepted derivation, and the goal there."""
    scope, goal, level = scope_of(claim), claim[1], 0
    for row, index in zip(rows_along(derivation, path), path):
        goals, brought = rule_of(library, scope, goal, row, path)
        scope, level = premise_scopes(scope, level, goals, brought)[index]
        goal = goals[index]
    return [(ref, scope[ref][0], scope[ref][1]) for ref in scope], goal


def placed_goals(library, claim, derivation):
    """The list of all rows of an accepted derivation in preorder, each with its level and its goal."""
    found = []
    waiting = [(derivation, scope_of(claim), 0, claim[1])]
    while waiting:
        row, scope, level, goal = waiting.pop()
        found.append((row, level, goal))
        goals, brought = rule_of(library, scope, goal, row, ())
        above = []
        for inner, aim, premise in zip(premise_scopes(scope, level, goals, brought), goals, premises(row)):
            above.append((premise, inner[0], inner[1], aim))
        waiting.extend(above[::-1])
    return found
