"""What each row asks of its place: the holds in scope and the goal there.

A scope is a dictionary from references to pairs of a kind and a sentence. Each
function here looks at one row alone. It returns the goals of the premises in
order and the hold that the row brings into the last of them, as a pair of a
kind and a sentence, or None; or it raises an error with the path that it is given.
"""

from heldproofs.errors import DerivationError


def own_rule(library, scope, goal, row, path):
    """The row own ends a derivation with a hold."""
    if scoped_sentence(scope, row[1], path) != goal:
        raise DerivationError(path, "goal")
    return [], None


def take_rule(library, scope, goal, row, path):
    """The row take brings the price of its goal."""
    if goal[0] != "trade":
        raise DerivationError(path, "goal")
    return [goal[3]], (goal[1], goal[2])


def offer_rule(library, scope, goal, row, path):
    """The row offer shows each side of its goal."""
    if goal[0] != "menu":
        raise DerivationError(path, "goal")
    return [goal[1], goal[2]], None


def pick_rule(library, scope, goal, row, path):
    """The row pick brings one side of a hold."""
    sentence = scoped_sentence(scope, row[1], path)
    if sentence[0] != "menu":
        raise DerivationError(path, "sentence")
    return [goal], ("once", picked_side(sentence, row[2]))


def pay_rule(library, scope, goal, row, path):
    """The row pay shows the price of a hold and brings the goods."""
    sentence = scoped_sentence(scope, row[1], path)
    if sentence[0] != "trade":
        raise DerivationError(path, "sentence")
    if row[2] != sentence[1]:
        raise DerivationError(path, "kind")
    return [sentence[2], goal], ("once", sentence[3])


def make_rule(library, scope, goal, row, path):
    """The row make shows a make of the word that is its goal."""
    name, index = row[1], row[2]
    if goal != ("word", name):
        raise DerivationError(path, "goal")
    return [indexed(library.makes_of(name), index, path)], None


def open_rule(library, scope, goal, row, path):
    """The row open brings an open of a hold that is a word."""
    name, index = row[2], row[3]
    if scoped_sentence(scope, row[1], path) != ("word", name):
        raise DerivationError(path, "sentence")
    return [goal], ("once", indexed(library.opens_of(name), index, path))


def cut_rule(library, scope, goal, row, path):
    """The row cut shows a sentence on the side and brings it."""
    return [row[2], goal], (row[1], row[2])


def cite_rule(library, scope, goal, row, path):
    """The row cite ends a derivation with an entry."""
    name = row[1]
    if name not in library.entry_names():
        raise DerivationError(path, "entry")
    if library.entry(name)[0] != goal:
        raise DerivationError(path, "goal")
    return [], None


def scoped_sentence(scope, ref, path):
    """The sentence of a hold in scope."""
    if ref not in scope:
        raise DerivationError(path, "hold")
    return scope[ref][1]


def picked_side(sentence, side):
    """One side of a menu."""
    return sentence[1] if side == "left" else sentence[2]


def indexed(sentences, index, path):
    """The make or the open of this index of a word; a word that is not defined has none."""
    if not 0 <= index < len(sentences):
        raise DerivationError(path, "word")
    return sentences[index]


RULES = {
    "own": own_rule,
    "take": take_rule,
    "offer": offer_rule,
    "pick": pick_rule,
    "pay": pay_rule,
    "make": make_rule,
    "open": open_rule,
    "cut": cut_rule,
    "cite": cite_rule,
}


def rule_of(library, scope, goal, row, path):
    """The goals of the premises of a row at its place, and the hold that the row brings or None."""
    rule = RULES[row[0]]
    return rule(library, scope, goal, row, path)


def scope_of(claim):
    """The scope at the root of a derivation of a claim."""
    return {name: (kind, sentence) for name, kind, sentence in claim[0]}


def with_brought(scope, level, brought):
    """The scope with a hold that a row at this level brings."""
    inner = {ref: scope[ref] for ref in scope}
    inner[level] = brought
    return inner


def premise_scopes(scope, level, goals, brought):
    """The scope and the level of each premise of a row, from what its rule tells."""
    scopes = [(scope, level) for _ in goals]
    if brought is not None:
        scopes[-1] = (with_brought(scope, level, brought), level + 1)
    return scopes
