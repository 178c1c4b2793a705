"""The full sharings of what is held among prices."""


class Sharings:
    """The full sharings of some pairs among some prices, made one at a time.

    The pairs are told by their kinds and by whether each is equal to the one in
    front of it, the prices by their kinds. How a pair is shared is a list of the
    numbers of uses that go to its takers. The last taker has the least weight and
    gets as many as are left, so each such list is full and no beginning of one is
    a dead end. Of sharings that differ only in which of several equal pairs gives
    what, one is made: their lists come in order.
    """

    def __init__(self, kinds, repeated, prices, backward):
        self.kinds = kinds
        self.repeated = repeated
        self.prices = prices
        self.backward = backward
        self.takers = [takers_of(kind, prices) for kind in kinds]
        self.slots = [{index: slot for slot, (index, _) in enumerate(takers)} for takers in self.takers]
        self.spreads = [[] for _ in kinds]
        self.begun = False

    def advance(self):
        """Go to the next sharing; False if there is none."""
        if not self.begun:
            self.begun = True
            return self.begin()
        many = len(self.kinds)
        for at in reversed(range(many)):
            if self.goes_on(self.spreads[at], at):
                self.fill(at)
                return True
        return False

    def begin(self):
        """Go to the first sharing; False if something that is held once has no taker."""
        for kind, takers in zip(self.kinds, self.takers):
            if kind == "once" and not takers:
                return False
        self.fill(0)
        return True

    def goes_on(self, spread, at):
        """Shorten the list of a pair to the beginning of the next one; False if it was the last one."""
        step = -1 if self.backward else 1
        # The number at the end follows from the others.
        del spread[-1:]
        while spread:
            number = spread.pop() + step
            low, high = self.bounds(at)
            if low <= number <= high:
                spread.append(number)
                return True
        return False

    def fill(self, start):
        """Complete the lists from a pair on with the first numbers that can stand there."""
        many = len(self.kinds)
        for at in range(start, many):
            spread = self.spreads[at]
            missing = len(self.takers[at]) - len(spread)
            for left in range(missing, 0, -1):
                low, high = self.bounds(at)
                spread.append(high if self.backward or left == 1 else low)

    def bounds(self, at):
        """The least and the greatest number that can come next in the list of a pair."""
        spread = self.spreads[at]
        takers = self.takers[at]
        left = uses_of(self.kinds[at])
        for (_, weight), number in zip(takers, spread):
            left = left - weight * number
        high = left // takers[len(spread)][1]
        if self.repeated[at] and self.spreads[at - 1][:len(spread)] == spread:
            return self.spreads[at - 1][len(spread)], high
        return 0, high

    def portion(self, index):
        """The list of the pairs that a price gets a part of, each with the kind of that part."""
        given = []
        price = self.prices[index]
        for at, slots in enumerate(self.slots):
            if index in slots:
                number = self.spreads[at][slots[index]]
                if number > 0:
                    given.append((at, portion_kind(self.kinds[at], price, number)))
        return given


def takers_of(kind, prices):
    """The prices that may get something of a pair, each with the uses that one use there takes away."""
    takers = []
    for index, price in enumerate(prices):
        if price == "once":
            takers.append((index, 1))
        elif kind != "once" and price[1] <= kind[1]:
            takers.append((index, price[0]))
    if not takers:
        return takers
    least = min([weight for _, weight in takers])
    last = [taker for taker in takers if taker[1] == least][-1]
    return [taker for taker in takers if taker != last] + [last]


def uses_of(kind):
    """How many uses a hold of the kind has."""
    return 1 if kind == "once" else kind[0]


def portion_kind(kind, price, number):
    """The kind of so many uses of a pair inside of a price."""
    if kind == "once":
        return "once"
    if price == "once":
        return number, kind[1]
    return number, kind[1] - price[1]
