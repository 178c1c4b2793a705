"""Writing and reading the texts of sentences."""

from heldproofs.errors import TextError
from heldproofs.sentences import menu, trade, word
from heldproofs.tokens import format_kind, read_brackets, read_name, read_sign, skip_spaces


def format_sentence(sentence):
    """The text of a sentence, with parentheses only where they are needed."""
    if sentence[0] == "word":
        return sentence[1]
    if sentence[0] == "menu":
        left = enclosed(format_sentence(sentence[1]), sentence[1][0] == "trade")
        right = enclosed(format_sentence(sentence[2]), sentence[2][0] != "word")
        return f"{left} & {right}"
    price = enclosed(format_sentence(sentence[2]), sentence[2][0] == "trade")
    goods = format_sentence(sentence[3])
    if sentence[1] == "once":
        return f"{price} > {goods}"
    return f"{price} {format_kind(sentence[1])} > {goods}"


def enclosed(text, needed):
    """The text, in parentheses if they are needed."""
    return f"({text})" if needed else text


class Unfinished:
    """A sentence that is being read, from its start or an opening parenthesis on."""

    def __init__(self):
        self.part = None
        self.prices = []

    def put(self, atom):
        """Add an atom to the menu part that is being read."""
        self.part = atom if self.part is None else menu(self.part, atom)

    def pay(self, kind):
        """Take the menu part that was read for a price; its goods follow."""
        self.prices.append((kind, self.part))
        self.part = None

    def whole(self):
        """The sentence that was read."""
        made = self.part
        for kind, price in reversed(self.prices):
            made = trade(price, made, kind=kind)
        return made


def read_sentence(text, start):
    """Read a sentence as far as it goes.

    Returns the sentence and the index of the first character behind it that
    is no space; the caller says whether that character may stand there.
    """
    # A list of what is open, not calls within calls: a text may nest deeply.
    unfinished = [Unfinished()]
    at = start
    while True:
        at = read_atom(text, at, unfinished)
        while len(unfinished) > 1 and text[at:at + 1] == ")":
            inner = unfinished.pop().whole()
            unfinished[-1].put(inner)
            at = skip_spaces(text, at + 1)
        sign = text[at:at + 1]
        if sign == "&":
            at += 1
        elif sign == ">" or sign == "[":
            kind, at = read_payment(text, at)
            unfinished[-1].pay(kind)
        elif len(unfinished) == 1:
            return unfinished[0].whole(), at
        else:
            raise TextError(at)


def read_atom(text, start, unfinished):
    """Read opening parentheses and the name behind them; the index of what follows."""
    at = skip_spaces(text, start)
    while text[at:at + 1] == "(":
        unfinished.append(Unfinished())
        at = skip_spaces(text, at + 1)
    stop = read_name(text, at)
    unfinished[-1].put(word(text[at:stop]))
    return skip_spaces(text, stop)


def read_payment(text, start):
    """Read the sign of a trade with its kind, if one stands there; the kind and the index behind."""
    if text[start] == ">":
        return "once", start + 1
    kind, at = read_brackets(text, start)
    return kind, read_sign(text, at, ">")


def parse_sentence(text):
    """The sentence of a text."""
    sentence, stop = read_sentence(text, 0)
    if stop < len(text):
        raise TextError(stop)
    return sentence
