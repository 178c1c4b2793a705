"""Settling bare claims: whether some bare derivation shows them, and how or why not."""

from heldproofs.ends import Ends
from heldproofs.numbering import Numbering
from heldproofs.rows import from_heads


class Visit:
    """A numbered claim that is being settled, with those premises of the end that is looked at which were needed."""

    def __init__(self, claim, cursor):
        self.claim = claim
        self.cursor = cursor
        self.premises = None
        self.refuted = []


class Finder:
    """What is found out about the bare claims of a library, until it changes.

    The results are kept under numbered claims: `(True, choice, premises)` with the end that
    shows the claim, or `(False, None, premises)` with a refuted premise of each end.
    """

    def __init__(self, library, backward):
        self.numbering = Numbering(library)
        self.backward = backward
        self.results = {}

    def settle(self, claim, limit):
        """Settle a numbered claim by looking at no more ends than the limit says; how many they were."""
        looked = 0
        # A list of what is being settled, not calls within calls: stock makes searches deep.
        waiting = [] if claim in self.results else [self.visit(claim)]
        while waiting:
            visit = waiting[-1]
            if visit.premises is not None:
                self.go_on(visit, waiting)
            elif not visit.cursor.advance():
                self.results[visit.claim] = (False, None, visit.refuted)
                waiting.pop()
            elif looked == limit:
                return looked
            else:
                looked += 1
                visit.premises = []
        return looked

    def visit(self, claim):
        """A new visit of a numbered claim."""
        return Visit(claim, Ends(self.numbering, claim, self.backward))

    def go_on(self, visit, waiting):
        """Go on with the end that a visit looks at: show its claim, give the end up, or settle a premise."""
        premise = self.first_not_shown(visit)
        if premise is None:
            self.results[visit.claim] = (True, visit.cursor.choice, visit.premises)
            waiting.pop()
        elif premise in self.results:
            visit.refuted.append(premise)
            visit.premises = None
        else:
            waiting.append(self.visit(premise))

    def first_not_shown(self, visit):
        """The first premise of the end of a visit that is not known to be shown, or None."""
        for at in range(visit.cursor.many):
            # A premise behind one that is refuted is not even made.
            if at == len(visit.premises):
                visit.premises.append(visit.cursor.premise(at))
            premise, _ = visit.premises[at]
            if premise not in self.results or not self.results[premise][0]:
                return premise
        return None

    def refutation_of(self, claim):
        """The refutation of a numbered claim that is refuted."""
        found = {claim: True}
        waiting = [claim]
        while waiting:
            here = waiting.pop()
            for premise in self.results[here][2]:
                if premise not in found:
                    found[premise] = True
                    waiting.append(premise)
        return [self.numbering.told(each) for each in found]

    def derivation_of(self, claim, refs):
        """The settled derivation of a numbered claim that is shown, with a reference for each pair."""
        found = []
        waiting = [(claim, refs, 0)]
        while waiting:
            item = waiting.pop()
            if isinstance(item[0], str):
                found.append(item)
            else:
                waiting.extend(self.rows_of(item[0], item[1], item[2])[::-1])
        return from_heads(found)

    def rows_of(self, claim, refs, level):
        """The heads of the last rows that show a claim, with the premises to be shown between them."""
        _, choice, premises = self.results[claim]
        if choice[0] == "spend":
            return self.head_rows(choice, premises, refs, level)
        if choice[0] == "make":
            word = self.numbering.sentences[claim[1]][1]
            return [("make", word, choice[1])] + parts_to_show(premises, refs, level)
        if choice[0] == "offer":
            return [choice] + parts_to_show(premises, refs, level)
        inner, places = premises[0]
        taken = [level if at < 0 else refs[at] for at in places]
        return [choice, (inner, taken, level + 1)]

    def head_rows(self, choice, premises, refs, level):
        """The rows that do all actions of a route, and own on top of them."""
        ref = refs[choice[1]]
        rows = []
        paid = 0
        for action in choice[2]:
            if action[0] == "pay":
                rows.append(("pay", ref, action[1]))
                rows.extend(parts_to_show(premises[paid:paid + 1], refs, level))
                paid += 1
            else:
                rows.append((action[0], ref) + action[1:])
            ref = level
            level += 1
        rows.append(("own", ref))
        return rows


def parts_to_show(premises, refs, level):
    """The premises of an end that are to be shown at a level, each with its references."""
    return [(claim, [refs[at] for at in places], level) for claim, places in premises]
