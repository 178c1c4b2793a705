"""The ways of sentences, and the ends of bare claims."""

from heldproofs.kinds import spent_kind
from heldproofs.numbering import Numbering
from heldproofs.routes import prices_on, routes
from heldproofs.sharing import Sharings


def ways(library, sentence):
    """The list of the ways of a sentence, each with its prices and the word in which it ends."""
    return [(prices_on(actions), name) for actions, name in routes(library, sentence)]


def ends(library, pairs, goal):
    """The list of the ends of a bare claim, each with its premises."""
    numbering = Numbering(library)
    cursor = Ends(numbering, numbering.numbered(pairs, goal), False)
    found = []
    while cursor.advance():
        premises = [cursor.premise(at) for at in range(cursor.many)]
        found.append([numbering.told(claim) for claim, _ in premises])
    return found


class Ends:
    """The ends of a numbered claim, made one at a time.

    The choice of an end is `("take",)`, `("offer",)`, `("make", index)`, or
    `("spend", place, actions, prices)` with the place of a pair in the claim.
    """

    def __init__(self, numbering, claim, backward):
        self.numbering = numbering
        self.claim = claim
        self.backward = backward
        self.choices = end_choices(numbering, claim)
        if backward:
            self.choices.reverse()
        self.choice = None
        self.many = 0
        self.upcoming = 0
        self.rest = []
        self.sharings = None

    def advance(self):
        """Go to the next end; False if there is none. Many is the number of its premises."""
        while self.sharings is not None or self.upcoming < len(self.choices):
            if self.sharings is None:
                self.choice = self.choices[self.upcoming]
                self.upcoming += 1
                self.many = 2 if self.choice[0] == "offer" else 1
                if self.choice[0] != "spend":
                    return True
                self.spend()
            if self.sharings.advance():
                return True
            self.sharings = None
        return False

    def premise(self, at):
        """A premise of the end: a numbered claim and the list of the places from which its pairs come.

        The place is -1 for the pair that take brings.
        """
        pairs, goal = self.claim
        if self.choice[0] == "spend":
            portion = self.sharings.portion(at)
            items = [(kind, self.rest[index][1], self.rest[index][2]) for index, kind in portion]
            return self.numbering.arranged(items, self.choice[3][at][1])
        items = [(kind, number, place) for place, (kind, number) in enumerate(pairs)]
        parts = self.numbering.parts(goal)
        if self.choice[0] == "take":
            items.append((self.numbering.sentences[goal][1], parts[0], -1))
            return self.numbering.arranged(items, parts[1])
        return self.numbering.arranged(items, parts[self.choice[1] if self.choice[0] == "make" else at])

    def spend(self):
        """Take up a choice that spends a pair; its sharings are to be made."""
        _, spent, _, prices = self.choice
        items = []
        for at, (kind, number) in enumerate(self.claim[0]):
            left = spent_kind(kind) if at == spent else kind
            if left is not None:
                items.append((left, number, at))
        (pairs, _), origins = self.numbering.arranged(items, self.claim[1])
        self.rest = [(kind, number, at) for (kind, number), at in zip(pairs, origins)]
        repeated = [at > 0 and pairs[at - 1] == pairs[at] for at in range(len(pairs))]
        kinds = [kind for kind, _ in pairs]
        self.sharings = Sharings(kinds, repeated, [kind for kind, _ in prices], self.backward)
        self.many = len(prices)


def end_choices(numbering, claim):
    """The list of the choices that the ends of a numbered claim have."""
    pairs, goal = claim
    sentence = numbering.sentences[goal]
    if sentence[0] == "trade":
        return [("take",)]
    if sentence[0] == "menu":
        return [("offer",)]
    found = [(1, ("make", index)) for index in range(len(numbering.parts(goal)))]
    for at, (kind, number) in enumerate(pairs):
        if at == 0 or pairs[at - 1] != pairs[at]:
            for actions, prices in numbering.routes_to(number, sentence[1]):
                found.append((len(prices), ("spend", at, actions, prices)))
    # What has few premises is soon settled.
    return [choice for _, choice in sorted(found, key=lambda item: item[0])]
