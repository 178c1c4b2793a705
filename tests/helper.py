"""What several tests share: made-up values, and looking for lists that are one object."""

import copy


def error_of(call, *told, **more):
    """The class and the attributes of the error that a call raises, or None."""
    try:
        call(*told, **more)
    except ValueError as error:
        return (error.__class__.__name__, vars(error))
    return None


def boxes_in(value):
    """All lists and dictionaries in a value, however deep."""
    if isinstance(value, dict):
        inner = [box for item in value.values() for box in boxes_in(item)]
        return [value] + inner
    if isinstance(value, (list, tuple)):
        inner = [box for item in value for box in boxes_in(item)]
        return inner + ([value] if isinstance(value, list) else [])
    return []


def check_new(test, call, *told):
    """Point 2: told lists are new, in themselves and over several calls; no argument changes."""
    before = copy.deepcopy(told)
    first = call(*told)
    kept = copy.deepcopy(first)
    second = call(*told)
    boxes = boxes_in(first) + boxes_in(second)
    test.assertTrue(boxes)
    test.assertEqual(len({id(box) for box in boxes}), len(boxes))
    passed = {id(box) for box in boxes_in(told)}
    test.assertFalse(passed & {id(box) for box in boxes})
    for box in boxes_in(first):
        box.clear()
    test.assertEqual(second, kept)
    test.assertEqual(call(*told), kept)
    test.assertEqual(told, before)


def holds_no_list(value):
    """Whether a value of tuples contains no list."""
    if isinstance(value, tuple):
        return all(holds_no_list(item) for item in value)
    return not isinstance(value, (list, dict))


def random_kind(random):
    """A kind made up by a random source that a test has given its start."""
    if random.random() < 0.5:
        return "once"
    return (random.choice([1, 2, 9, 10, 400]), random.choice([0, 1, 9, 10, 100]))


def random_sentence(random, depth):
    """A sentence that nests at most so deep."""
    shape = random.choice(["word", "menu", "menu", "trade", "trade"]) if depth else "word"
    if shape == "word":
        return ("word", random.choice(["a", "b", "c1", "own", "zzzzzzzzzzzz"]))
    parts = (random_sentence(random, depth - 1), random_sentence(random, depth - 1))
    if shape == "menu":
        return ("menu",) + parts
    return ("trade", random_kind(random)) + parts


def scattered(random, text):
    """The text with the same tokens and other spaces between them."""
    out = ""
    for index, char in enumerate(text):
        if char != " ":
            out += char
            tight = index + 1 < len(text) and text[index + 1] != " " and (
                (char.isalnum() and text[index + 1].isalnum()) or char + text[index + 1] == "|-")
            if not tight:
                out += " " * random.choice([0, 0, 1, 2])
    return " " * random.choice([0, 1, 2]) + out


def least_fault(is_beginning, text):
    """Point 15 to the letter: the least index up to which the text begins no right one."""
    for index in range(len(text)):
        if not is_beginning(text[:index + 1]):
            return index
    return len(text)


def random_ref(random, level):
    """A reference that is in scope at a level."""
    return random.choice(["x", "y", "own"] + list(range(level)) * 2)


def random_derivation(random, depth, level=0):
    """A derivation at a level, nested at most so deep, whose references are in scope."""
    def above(more):
        return random_derivation(random, depth - 1, level + more)

    names = ["own", "cite"] if depth == 0 else [
        "own", "take", "offer", "pick", "pay", "make", "open", "cut", "pay", "cut", "offer"]
    name = random.choice(names)
    ref = random_ref(random, level)
    if name == "own":
        return ("own", ref)
    if name == "cite":
        return ("cite", random.choice(["e", "own", "once"]))
    if name == "take":
        return ("take", above(1))
    if name == "offer":
        return ("offer", above(0), above(0))
    if name == "pick":
        return ("pick", ref, random.choice(["left", "right"]), above(1))
    if name == "pay":
        return ("pay", ref, random_kind(random), above(0), above(1))
    if name == "make":
        return ("make", "w", random.choice([0, 1, 999999999]), above(0))
    if name == "open":
        return ("open", ref, "w", random.choice([0, 2]), above(1))
    return ("cut", random_kind(random), random_sentence(random, 2), above(0), above(1))


def tower(depth):
    """Derivations of all shapes that nest so many rows deep, with the depth of their tops."""
    take = pay = source = make = offer = ("own", "x")
    for _ in range(depth - 1):
        take = ("take", take)
        pay = ("pay", "f", (2, 1), ("own", "s"), pay)
        source = ("cut", (1, 0), ("word", "a"), source, ("own", "z"))
        make = ("make", "w", 0, make)
        offer = ("offer", ("own", "y"), offer)
    return [take, pay, source, make, offer]
