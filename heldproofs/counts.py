"""Counting the uses and the days of what a derivation refers to."""

from heldproofs.moving import is_below
from heldproofs.rows import field_of, heads, placed_heads, premise_count, refers


class Count:
    """How often at least and at most a thing is used, and within how many days."""

    def __init__(self, least, most, days):
        self.least = least
        self.most = most
        self.days = days

    def __add__(self, other):
        """The count of something that is used in both of two parts."""
        return Count(self.least + other.least, self.most + other.most, max(self.days, other.days))

    def __or__(self, other):
        """The count of something that is used in one of two parts."""
        return Count(min(self.least, other.least), max(self.most, other.most), max(self.days, other.days))

    def boxed(self, kind):
        """The count behind a part that is packed into a kind."""
        if kind == "once":
            return Count(self.least, self.most, self.days)
        uses, days = kind
        return Count(0, uses * self.most, days + self.days)

    def fits(self, kind):
        """Whether a hold of the kind may be used like this."""
        if kind == "once":
            return self.least == 1 and self.most == 1
        uses, days = kind
        return self.most <= uses and self.days <= days

    def triple(self):
        """The three numbers."""
        return self.least, self.most, self.days


def counts(derivation, level=0):
    """A dictionary from the free references of a derivation at this level to their counts."""
    made = []
    for head, here in reversed(placed_heads(derivation, level)):
        above = [made.pop() for _ in range(premise_count(head[0]))]
        made.append(row_counts(head, here, above))
    return made[0]


def count_of(derivation, ref):
    """The count of one free reference alone, (0, 0, 0) if it does not occur."""
    made = []
    for head in reversed(heads(derivation)):
        above = [made.pop() for _ in range(premise_count(head[0]))]
        made.append(row_count_of(head, ref, above))
    return made[0]


def row_count_of(row, ref, above):
    """The count of one reference in a row, from those in its premises in order."""
    if row[0] == "offer":
        return above[0] | above[1]
    found = above[-1] if above else Count(0, 0, 0)
    if refers(row) and row[1] == ref:
        found = found + Count(1, 1, 0)
    # A part without the reference takes no days.
    if row[0] in ("pay", "cut") and above[0].most > 0:
        found = found + above[0].boxed(field_of(row, "kind"))
    return found


def row_counts(row, level, above):
    """The counts of a row at this level, from those of its premises in order."""
    if row[0] == "offer":
        return chosen(above[0], above[1])
    found = {}
    if above:
        # The hold that the row brings is its own affair; other rows bring none at this level.
        found = {ref: above[-1][ref] for ref in above[-1] if ref != level}
    if refers(row) and is_below(row[1], level):
        found = summed(found, {row[1]: Count(1, 1, 0)})
    if row[0] in ("pay", "cut"):
        found = summed(found, packed(above[0], field_of(row, "kind")))
    return found


def chosen(left, right):
    """The counts of two parts of which one is chosen."""
    made = {}
    for ref in list(left) + list(right):
        made[ref] = left.get(ref, Count(0, 0, 0)) | right.get(ref, Count(0, 0, 0))
    return made


def summed(first, second):
    """The counts of two parts that are both used."""
    made = {ref: first[ref] for ref in first}
    for used in second:
        made[used] = made[used] + second[used] if used in made else second[used]
    return made


def packed(found, kind):
    """The counts of a part that is packed into a kind."""
    return {ref: found[ref].boxed(kind) for ref in found}
