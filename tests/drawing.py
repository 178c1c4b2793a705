"""Claims, libraries and derivations made up by a random source that a test has given its start."""

from heldproofs.checking import accepts
from heldproofs.counts import counts
from heldproofs.library import Library
from heldproofs.moving import moved
from heldproofs.rows import level_at, part, premises, walk, with_part
from heldproofs.tallies import greatest_play, tally
from plainreading import lowered, plain_exchanges

KINDS = ["once", "once", "once", (1, 0), (2, 0), (2, 1), (3, 1)]


def draw_kind(random):
    return random.choice(KINDS)


def draw_sentence(random, depth, words="abcvw"):
    """A sentence that nests at most so deep."""
    shape = random.choice(["word", "word", "menu", "trade"]) if depth else "word"
    if shape == "word":
        return ("word", random.choice(words))
    parts = (draw_sentence(random, depth - 1, words), draw_sentence(random, depth - 1, words))
    return ("menu",) + parts if shape == "menu" else ("trade", draw_kind(random)) + parts


def draw_claim(random, most, depth, words="abcvw"):
    """A claim of at most so many holds, with a derivation or without one."""
    names = ["x", "y", "z", "f", "g"][:random.randrange(most + 1)]
    holds = [(name, draw_kind(random), draw_sentence(random, depth, words)) for name in names]
    return (tuple(holds), draw_sentence(random, depth, words))


def draw_library(random, limit=200):
    """A library with some of the words v and w, the second by the first; it may have gaps."""
    library = Library()
    for name, words in [("v", "abc"), ("w", "abcv")]:
        if random.random() < 0.7:
            makes = [draw_sentence(random, 1, words) for _ in range(random.randrange(3))]
            opens = [draw_sentence(random, 1, words) for _ in range(random.randrange(3))]
            if random.random() < 0.7:
                # What is made may be opened again: such a word has meetings.
                opens = makes[:1] + opens[:1]
            library.define(name, makes=makes, opens=opens, limit=limit)
    return library


def draw_full_library(random):
    """A library with entries, too; they contain cuts, and later ones may cite earlier ones."""
    library = draw_library(random)
    for name in ["e", "e2", "e3"]:
        claim, derivation = draw_derivation(random, library, random.choice([1, 2]), draw_sentence(random, 0, "abw"))
        while claim[0]:
            (held, kind, sentence), claim = claim[0][-1], (claim[0][:-1], claim[1])
            claim = (claim[0], ("trade", kind, sentence, claim[1]))
            derivation = ("take", moved(derivation, 0, 1, {held: 0}))
        library.keep(name, claim[1], derivation)
    return library


def draw_derivation(random, library, depth, goal=None):
    """A claim and a derivation that shows it, nested so deep or deeper; it may contain cuts and cites."""
    goal = goal or draw_sentence(random, 2, "abw")
    row, held = Drawing(random, library).part(goal, depth)
    holds = [(name, fitting_kind(random, count), held[name]) for name, count in counts(row).items()]
    if random.random() < 0.3:
        holds.insert(0, ("spare", (1, 0), ("word", "a")))
    claim = (tuple(holds), goal)
    assert accepts(library, claim, row)
    return claim, row


def fitting_kind(random, count):
    """A kind for what is used like this."""
    if count.fits("once") and random.random() < 0.7:
        return "once"
    return (max(1, count.most + random.choice([0, 0, 1])), count.days + random.choice([0, 0, 1]))


class Drawing:
    """Parts of derivations, at level 0, with a name for each hold that they use, and the sentences of these."""

    def __init__(self, random, library):
        self.random = random
        self.library = library
        self.names = 0

    def new_name(self):
        self.names += 1
        return "h" + str(self.names)

    def part(self, goal, depth):
        """A part that shows a goal."""
        shapes = ["own"] if depth == 0 else ["pick", "pay", "pay", "cut", "cut", "cut", "open", "open"]
        if depth and goal[0] == "trade":
            shapes += ["take"] * 6
        if depth and goal[0] == "menu":
            shapes += ["offer"] * 6
        if depth and goal[0] == "word" and self.library.makes_of(goal[1]):
            shapes += ["make"] * 6
        cited = [name for name in self.library.entry_names() if self.library.entry(name)[0] == goal]
        if cited:
            shapes += ["cite"] * 6
        if depth and self.fitting_entries(goal):
            shapes += ["use_entry"] * 3
        shape = self.random.choice(shapes)
        if shape == "own":
            name = self.new_name()
            return ("own", name), {name: goal}
        if shape == "cite":
            return ("cite", self.random.choice(cited)), {}
        return self.merged(*getattr(self, shape)(goal, depth - 1))

    def fitting_entries(self, goal):
        """The entries whose sentence is a trade, perhaps for a trade and so on, for the goal at last."""
        found = []
        for entry in self.library.entry_names():
            sentence = goods = self.library.entry(entry)[0]
            while goods[0] == "trade":
                goods = goods[3]
            if goods == goal != sentence:
                found.append(entry)
        return found

    def use_entry(self, goal, depth):
        entry = self.random.choice(self.fitting_entries(goal))
        sentence = self.library.entry(entry)[0]
        trades = [sentence]
        while trades[-1][3][0] == "trade":
            trades.append(trades[-1][3])
        name = self.new_name()
        row, held = ("own", name), {name: goal}
        for trade in reversed(trades):
            paid, more = self.part(trade[2], depth)
            ref = self.new_name()
            row, held = self.bound(("pay", ref, trade[1], paid), row, held, name)
            held, name = held | more | {ref: trade}, ref
        if self.random.random() < 0.2:
            return row, held
        return self.bound(("cut", self.random.choice(["once", (1, 0)]), sentence, ("cite", entry)), row, held, name)

    def merged(self, row, held):
        """The part, perhaps with two of its holds made one."""
        for name in list(held):
            others = [other for other in held if other != name and held[other] == held[name]]
            if others and self.random.random() < 0.5:
                row = moved(row, 0, 0, {name: self.random.choice(others)})
                held = {other: held[other] for other in held if other != name}
        return row, held

    def take(self, goal, depth):
        row, held = self.part(goal[3], depth)
        found = counts(row)
        names = [name for name in held if held[name] == goal[2] and found[name].fits(goal[1])]
        if names:
            return self.bound(("take",), row, held, self.random.choice(names))
        if goal[1] == "once":
            name = self.new_name()
            return ("own", name), {name: goal}
        return ("take", moved(row, 0, 1, {})), held

    def offer(self, goal, depth):
        left, held = self.part(goal[1], depth)
        right, more = self.part(goal[2], depth)
        return ("offer", left, right), held | more

    def make(self, goal, depth):
        index = self.random.randrange(len(self.library.makes_of(goal[1])))
        row, held = self.part(self.library.makes_of(goal[1])[index], depth)
        return ("make", goal[1], index, row), held

    def bound(self, head, row, held, name):
        """A row over a part in which a hold is the one that the row brings."""
        return head + (moved(row, 0, 1, {name: 0}),), {other: held[other] for other in held if other != name}

    def used_once(self, row, held):
        found = counts(row)
        return [name for name in held if found[name].triple() == (1, 1, 0)]

    def pick(self, goal, depth):
        row, held = self.part(goal, depth)
        names = self.used_once(row, held)
        if not names:
            return row, held
        name, ref = self.random.choice(names), self.new_name()
        side, other = self.random.choice(["left", "right"]), draw_sentence(self.random, 1, "abw")
        menu = ("menu", held[name], other) if side == "left" else ("menu", other, held[name])
        row, held = self.bound(("pick", ref, side), row, held, name)
        return row, held | {ref: menu}

    def pay(self, goal, depth):
        row, held = self.part(goal, depth)
        names = self.used_once(row, held)
        if not names:
            return row, held
        name, ref = self.random.choice(names), self.new_name()
        trade = ("trade", draw_kind(self.random), draw_sentence(self.random, 1, "abw"), held[name])
        paid, more = self.part(trade[2], depth)
        row, held = self.bound(("pay", ref, trade[1], paid), row, held, name)
        return row, held | more | {ref: trade}

    def open(self, goal, depth):
        row, held = self.part(goal, depth)
        found = [(name, word, index) for name in self.used_once(row, held) for word in self.library
                 for index, inner in enumerate(self.library.opens_of(word)) if inner == held[name]]
        if not found:
            return self.cut(goal, depth)
        name, word, index = self.random.choice(found)
        ref = self.new_name()
        row, held = self.bound(("open", ref, word, index), row, held, name)
        return row, held | {ref: ("word", word)}

    def cut(self, goal, depth):
        row, held = self.part(goal, depth)
        found = counts(row)
        if not held or self.random.random() < 0.1:
            sentence = draw_sentence(self.random, 1, "abw")
            source, more = self.part(sentence, depth)
            return ("cut", self.random.choice([(1, 0), (2, 1)]), sentence, source, moved(row, 0, 1, {})), held | more
        name = self.random.choice(list(held))
        if row[0] in ("pick", "pay", "open") and self.random.random() < 0.6:
            name = row[1]
        source, more = self.part(held[name], depth)
        head = ("cut", fitting_kind(self.random, found[name]), held[name], source)
        row, held = self.bound(head, row, held, name)
        return row, held | more


def spoilt(random, derivation):
    """The derivation with one thing in one row changed; often it does not show its claim any more."""
    path = random.choice([path for path, name in walk(derivation)])
    row = list(part(derivation, path))
    change = {
        "own": {1: ["h1", "h2", "none", 0, 1, 2, -1]}, "take": {}, "offer": {1: [("own", 0), ("own", "h1")]},
        "pick": {1: ["h1", "h2", 0, 1], 2: ["left", "right"]}, "pay": {1: ["h1", "h2", 0, 1], 2: KINDS},
        "make": {1: ["v", "w", "a"], 2: [0, 1, 2, -1]},
        "open": {1: ["h1", 0, 1], 2: ["v", "w", "a"], 3: [0, 1, 2, -1]},
        "cut": {1: KINDS, 2: [("word", "a"), ("menu", ("word", "a"), ("word", "b"))], 3: [("own", "h1"), ("own", 0)]},
        "cite": {1: ["e", "e2", "none"]},
    }[row[0]]
    if change:
        at = random.choice(list(change))
        row[at] = random.choice(change[at])
    row = tuple(row)
    if random.random() < 0.2:
        row = random.choice([("take", row), ("offer", row, row), row[-1] if isinstance(row[-1], tuple) else row])
    return with_part(derivation, path, row)


class BareDrawing(Drawing):
    """The same without cuts and cites."""

    def part(self, goal, depth):
        shapes = ["pick", "pay", "pay", "open"] if depth else ["own"]
        if depth and goal[0] == "trade":
            shapes += ["take"] * 4
        if depth and goal[0] == "menu":
            shapes += ["offer"] * 4
        if depth and goal[0] == "word" and self.library.makes_of(goal[1]):
            shapes += ["make"] * 4
        shape = self.random.choice(shapes)
        if shape == "own":
            name = self.new_name()
            return ("own", name), {name: goal}
        return self.merged(*getattr(self, shape)(goal, depth - 1))

    def cut(self, goal, depth):
        return self.pay(goal, depth)


def draw_bare(random, depth):
    """A library, a claim and a bare derivation of it, with its rows in many an order."""
    while True:
        library = draw_library(random)
        goal = draw_sentence(random, 2, "abw")
        row, held = BareDrawing(random, library).part(goal, depth)
        claim = (tuple([(name, fitting_kind(random, count), held[name]) for name, count in counts(row).items()]), goal)
        assert accepts(library, claim, row)
        if tally(library, row).rows < 500 and greatest_play(library, row) < 100:
            return library, claim, scrambled(random, row, random.randrange(30))


def scrambled(random, derivation, times):
    """A bare derivation that is alike, with rows moved down and up."""
    for _ in range(times):
        places = [(path, index) for path, name in walk(derivation) for index in range(2)
                  if index < len(premises(part(derivation, path)))
                  and lowered(part(derivation, path), level_at(derivation, path), index)]
        ups = plain_exchanges(derivation)
        if ups and random.random() < 0.2:
            path, made = random.choice(ups)
            derivation = with_part(derivation, path, made)
        elif places:
            path, index = random.choice(places)
            made = lowered(part(derivation, path), level_at(derivation, path), index)
            derivation = with_part(derivation, path, made)
    return derivation
