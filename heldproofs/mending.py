"""Changing claims so that a derivation, itself changed little, still shows them."""

from heldproofs.claims import hold_of, without_hold
from heldproofs.counts import counts
from heldproofs.errors import NoRoom
from heldproofs.kinds import covers, pooled
from heldproofs.moving import moved


def with_room(claim, name, kind):
    """The claim in which a hold has a kind that leaves more room."""
    present, _ = hold_of(claim, name)
    if not covers(kind, present):
        raise NoRoom(name)
    return with_kind(claim, name, kind)


def with_kind(claim, name, kind):
    """The claim in which a hold has another kind, whatever it is."""
    holds = []
    for hold in claim[0]:
        holds.append((name, kind, hold[2]) if hold[0] == name else hold)
    return tuple(holds), claim[1]


def pooled_holds(claim, derivation, first, second):
    """The claim and the derivation in which two stock holds of one sentence are joined in the first."""
    kind, sentence = hold_of(claim, first)
    other, same = hold_of(claim, second)
    if first == second or sentence != same or "once" in (kind, other):
        raise NoRoom(second)
    joined = without_hold(with_kind(claim, first, pooled(kind, other)), second)
    return joined, moved(derivation, 0, 0, {second: first})


def least_kinds(claim, derivation):
    """The claim in which each stock hold has no more room than the derivation uses."""
    found = counts(derivation)
    holds = []
    for name, kind, sentence in claim[0]:
        if kind == "once":
            holds.append((name, kind, sentence))
        elif name in found:
            holds.append((name, (found[name].most, found[name].days), sentence))
    return tuple(holds), claim[1]


def abstracted(claim, derivation, name):
    """The claim whose goal is the trade for a hold that it leaves out, and a derivation of it."""
    kind, price = hold_of(claim, name)
    holds, goods = without_hold(claim, name)
    return (holds, ("trade", kind, price, goods)), ("take", moved(derivation, 0, 1, {name: 0}))
