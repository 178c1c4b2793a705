"""Tactics: what each of them asks of its goal, and the claims of the new goals.

A tactic is written as at a desk's journal: a tuple of its name, the number of
its goal and its other arguments. Each function in the table TACTICS gets the
library, the claim of the goal and that tuple.
"""

from heldproofs.checking import check
from heldproofs.claims import hold_of, without_hold
from heldproofs.errors import BadKind, BadName, LeftOver, NameTaken, NoRoom, WrongGoal, WrongHold
from heldproofs.kinds import is_kind, spent_kind
from heldproofs.names import is_name
from heldproofs.ranks import copies
from heldproofs.rules import picked_side
from heldproofs.sharing import portion_kind


def own_goals(library, claim, told):
    """The hold is the goal."""
    _, sentence = hold_of(claim, told[2])
    if sentence != claim[1]:
        raise WrongGoal()
    require_no_once(without_hold(claim, told[2]))
    return []


def take_goals(library, claim, told):
    """The price of the goal becomes a hold."""
    holds, goal = claim
    if goal[0] != "trade":
        raise WrongGoal()
    require_new(claim, told[2])
    return [with_new((holds, goal[3]), told[2], goal[1], goal[2])]


def offer_goals(library, claim, told):
    """Each side of the goal is shown."""
    holds, goal = claim
    if goal[0] != "menu":
        raise WrongGoal()
    return [(holds, goal[1]), (holds, goal[2])]


def pick_goals(library, claim, told):
    """One side of the hold becomes a hold."""
    _, _, hold, side, new = told
    _, sentence = hold_of(claim, hold)
    if sentence[0] != "menu":
        raise WrongHold(hold)
    require_new(claim, new)
    return [with_new(spent(claim, hold), new, "once", picked_side(sentence, side))]


def pay_goals(library, claim, told):
    """The price of the hold is shown; its goods become a hold."""
    _, _, hold, new, share = told
    _, sentence = hold_of(claim, hold)
    if sentence[0] != "trade":
        raise WrongHold(hold)
    require_new(claim, new)
    given, left = shared(spent(claim, hold), sentence[1], share)
    return [(given, sentence[2]), with_new((left, claim[1]), new, "once", sentence[3])]


def make_goals(library, claim, told):
    """A make of the goal is shown."""
    holds, goal = claim
    makes = library.makes_of(goal[1]) if goal[0] == "word" else []
    if not 0 <= told[2] < len(makes):
        raise WrongGoal()
    return [(holds, makes[told[2]])]


def unpack_goals(library, claim, told):
    """An open of the hold becomes a hold."""
    _, _, hold, index, new = told
    _, sentence = hold_of(claim, hold)
    opens = library.opens_of(sentence[1]) if sentence[0] == "word" else []
    if not 0 <= index < len(opens):
        raise WrongHold(hold)
    require_new(claim, new)
    return [with_new(spent(claim, hold), new, "once", opens[index])]


def cut_goals(library, claim, told):
    """A sentence is shown, and becomes a hold."""
    _, _, sentence, new, kind, share = told
    if not is_kind(kind):
        raise BadKind(kind)
    require_new(claim, new)
    given, left = shared(claim, kind, share)
    return [(given, sentence), with_new((left, claim[1]), new, kind, sentence)]


def cite_goals(library, claim, told):
    """An entry is the goal."""
    sentence, _ = library.entry(told[2])
    if sentence != claim[1]:
        raise WrongGoal()
    require_no_once(claim)
    return []


def fill_goals(library, claim, told):
    """A derivation shows the goal."""
    check(library, claim, told[2])
    return []


TACTICS = {
    "own": own_goals,
    "take": take_goals,
    "offer": offer_goals,
    "pick": pick_goals,
    "pay": pay_goals,
    "make": make_goals,
    "unpack": unpack_goals,
    "cut": cut_goals,
    "cite": cite_goals,
    "fill": fill_goals,
}


def new_goals(library, claim, told):
    """The list of the claims of the goals that a tactic opens when it closes the goal of a claim."""
    tactic = TACTICS[told[0]]
    return tactic(library, claim, told)


def require_new(claim, name):
    """Raise an error if a new hold cannot have this name."""
    if not is_name(name):
        raise BadName(name)
    for hold in claim[0]:
        if hold[0] == name:
            raise NameTaken(name)


def with_new(claim, name, kind, sentence):
    """The claim with a new hold at the end."""
    holds, goal = claim
    return holds + ((name, kind, sentence),), goal


def require_no_once(claim):
    """Raise an error if there is a hold that has to be used."""
    for name, kind, _ in claim[0]:
        if kind == "once":
            raise LeftOver(name)


def spent(claim, name):
    """The claim in which a hold has been used once."""
    kind, _ = hold_of(claim, name)
    return with_left(claim, name, spent_kind(kind))


def with_left(claim, name, kind):
    """The claim in which a hold has the kind that is left of it, or is left out for None."""
    holds = []
    for hold in claim[0]:
        if hold[0] != name:
            holds.append(hold)
        elif kind is not None:
            holds.append((name, kind, hold[2]))
    return tuple(holds), claim[1]


def shared(claim, kind, share):
    """The holds that a price of a kind gets of those of a claim, and the holds that are left."""
    given = []
    left = claim
    for name, uses in share:
        if name in [hold[0] for hold in given]:
            raise NameTaken(name)
        present, sentence = hold_of(claim, name)
        if not has_room(present, kind, uses):
            raise NoRoom(name)
        given.append((name, portion_kind(present, kind, uses), sentence))
        left = with_left(left, name, remainder(present, kind, uses))
    return tuple(given), left[0]


def has_room(present, kind, uses):
    """Whether so many uses of a hold can be shared with a price of a kind."""
    if present == "once":
        return kind == "once" and uses == 1
    if kind != "once" and kind[1] > present[1]:
        return False
    return uses >= 1 and copies(kind) * uses <= present[0]


def remainder(present, kind, uses):
    """The kind of what is left of a hold when so many uses of it are shared; None if nothing is left."""
    if present == "once" or copies(kind) * uses == present[0]:
        return None
    return present[0] - copies(kind) * uses, present[1]
