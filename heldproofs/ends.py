"""The ways of sentences, and the ends of bare claims."""

from heldproofs.numbering import Numbering
from heldproofs.routes import prices_on, routes
from heldproofs.sharing import Sharings


def ways(library, sentence):
    """The list of the ways of a sentence, each with its prices and the word in which it ends."""
    return [(prices_on(actions), name) for actions, name in routes(library, sentence)]


def ends(library, pairs, goal):
    """The list of the ends of a bare claim, each with its premises."""
    numbering = Numbering(library)
    cursor = Ends(numbering, numbering.numbered(pairs, goal), False)
    found = []
    premises = cursor.advance()
    while premises is not None:
        found.append([numbering.told(claim) for claim, _ in premises])
        premises = cursor.advance()
    return found


class Ends:
    """The ends of a numbered claim, made one at a time.

    The choice of an end is `("take",)`, `("offer",)`, `("make", index)`, or
    `("spend", place, actions, prices)` with the place of a pair in the claim.
    """

    def __init__(self, numbering, claim, backward):
        self.numbering = numbering
        self.claim = claim
        self.backward = backward
        self.choices = end_choices(numbering, claim)
        if backward:
            self.choices.reverse()
        self.choice = None
        self.upcoming = 0
        self.rest = []
        self.sharings = None

    def advance(self):
        """Go to the next end; the list of its premises, or None if there is none.

        A premise is a pair of a numbered claim and the list of the places from which its pairs
        come, -1 for the pair that take brings.
        """
        while self.sharings is not None or self.upcoming < len(self.choices):
            if self.sharings is None:
                self.choice = self.choices[self.upcoming]
                self.upcoming += 1
                if self.choice[0] != "spend":
                    return self.kept_premises()
                self.spend()
            if self.sharings.advance():
                return self.shared_premises()
            self.sharings = None
        return None

    def kept_premises(self):
        """The premises of a choice that spends no pair."""
        pairs, goal = self.claim
        items = [(kind, number, at) for at, (kind, number) in enumerate(pairs)]
        parts = self.numbering.parts(goal)
        if self.choice[0] == "take":
            taken = (self.numbering.sentences[goal][1], parts[0], -1)
            return [self.numbering.arranged(items + [taken], parts[1])]
        if self.choice[0] == "make":
            return [self.numbering.arranged(items, parts[self.choice[1]])]
        return [self.numbering.arranged(items, part) for part in parts]

    def spend(self):
        """Take up a choice that spends a pair; its sharings are to be made."""
        _, spent, _, prices = self.choice
        items = []
        for at, (kind, number) in enumerate(self.claim[0]):
            left = spent_kind(kind) if at == spent else kind
            if left is not None:
                items.append((left, number, at))
        (pairs, _), origins = self.numbering.arranged(items, self.claim[1])
        self.rest = [(kind, number, at) for (kind, number), at in zip(pairs, origins)]
        repeated = [at > 0 and pairs[at - 1] == pairs[at] for at in range(len(pairs))]
        kinds = [kind for kind, _ in pairs]
        self.sharings = Sharings(kinds, repeated, [kind for kind, _ in prices], self.backward)

    def shared_premises(self):
        """The premises of a choice that spends a pair, with the rest shared as it is now."""
        made = []
        for (_, goal), portion in zip(self.choice[3], self.sharings.portions()):
            items = [(kind, self.rest[at][1], self.rest[at][2]) for at, kind in portion]
            made.append(self.numbering.arranged(items, goal))
        return made


def end_choices(numbering, claim):
    """The list of the choices that the ends of a numbered claim have."""
    pairs, goal = claim
    sentence = numbering.sentences[goal]
    if sentence[0] == "trade":
        return [("take",)]
    if sentence[0] == "menu":
        return [("offer",)]
    found = [(1, ("make", index)) for index in range(len(numbering.parts(goal)))]
    for at, (kind, number) in enumerate(pairs):
        if at == 0 or pairs[at - 1] != pairs[at]:
            for actions, prices in numbering.routes_to(number, sentence[1]):
                found.append((len(prices), ("spend", at, actions, prices)))
    # What has few premises is soon settled.
    return [choice for _, choice in sorted(found, key=lambda item: item[0])]


def spent_kind(kind):
    """What a hold of the kind is after one use; None if nothing is left."""
    if kind == "once" or kind[0] == 1:
        return None
    return kind[0] - 1, kind[1]
