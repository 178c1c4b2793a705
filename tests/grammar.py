"""An independent reader of sentences, claims and derivations, for whole texts, and what they begin.

It is slow and plain: it says whether a text is right, and whether it is the
beginning of a right one, by trying endings.
"""

import re

NAME = re.compile(r"[a-z][a-z0-9]{0,11}(?![a-z0-9])")
NUMBER = re.compile(r"(0|[1-9][0-9]{0,8})(?![a-z0-9])")


def blank(text, at):
    while at < len(text) and text[at] == " ":
        at += 1
    return at


def token(text, at, sign):
    at = blank(text, at)
    if at is not None and text.startswith(sign, at):
        return at + len(sign)
    return None


def number(text, at, zero):
    match = NUMBER.match(text, blank(text, at))
    if match is None or (not zero and match.group() == "0"):
        return None
    return match.end()


def kind(text, at):
    """The end of [uses/days], or None."""
    for read in (lambda at: token(text, at, "["), lambda at: number(text, at, False),
                 lambda at: token(text, at, "/"), lambda at: number(text, at, True),
                 lambda at: token(text, at, "]")):
        at = read(at)
        if at is None:
            return None
    return at


def atom(text, at):
    at = blank(text, at)
    match = NAME.match(text, at)
    if match:
        return match.end()
    if not text.startswith("(", at):
        return None
    inner = sentence(text, at + 1)
    return None if inner is None else token(text, inner, ")")


def sentence(text, at):
    """The end of the longest sentence that begins there, or None."""
    at = atom(text, at)
    while at is not None and token(text, at, "&") is not None:
        at = atom(text, token(text, at, "&"))
    if at is None:
        return None
    behind = at
    if token(text, at, "[") is not None:
        behind = kind(text, at)
        if behind is None or token(text, behind, ">") is None:
            return None
    if token(text, behind, ">") is not None:
        return sentence(text, token(text, behind, ">"))
    return at


def is_sentence(text):
    end = sentence(text, 0)
    return end is not None and blank(text, end) == len(text)


def is_claim(text):
    """Whether the text is right but for repeated names."""
    at = 0
    if token(text, 0, "|-") is None:
        while True:
            at = blank(text, at)
            match = NAME.match(text, at)
            if match is None:
                return False
            at = match.end()
            if token(text, at, "[") is not None:
                at = kind(text, at)
                if at is None:
                    return False
            at = token(text, at, ":")
            if at is None:
                return False
            at = sentence(text, at)
            if at is None:
                return False
            if token(text, at, ",") is None:
                break
            at = token(text, at, ",")
    at = token(text, at, "|-")
    return at is not None and is_sentence(text[at:])


# What can complete the text of a sentence at any place of its grammar.
ENDINGS = ["", "a", "1/1]>a", "/1]>a", "1]>a", "]>a", ">a"]
CLAIM_ENDINGS = ["", ":a", "a:a", "1/1]:a", "/1]:a", "1]:a", "]:a"]


def begins_sentence(text):
    """Whether the text is the beginning of some text of a sentence."""
    return any(is_sentence(text + ending + ")" * count)
               for ending in ENDINGS for count in range(text.count("(") + 1))


def begins_claim(text):
    """Whether the text is the beginning of some text of a claim, but for repeated names."""
    endings = [ending + ")" * count for ending in ENDINGS for count in range(text.count("(") + 1)]
    return any(is_claim(text + ending + goal)
               for ending in endings + CLAIM_ENDINGS for goal in ("", "|-a", "-a"))


# What follows the name of each row: references, sides, kinds, names, indexes, sentences and derivations.
ROWS = {"own": "R", "take": "D", "offer": "DD", "pick": "RSD", "pay": "RKDD", "make": "NID",
        "open": "RNID", "cut": "KTDD", "cite": "N"}
NAME_TOKEN, NUMBER_TOKEN = "[a-z][a-z0-9]{0,11}", "(0|[1-9][0-9]{0,8})"
TOKENS = {"R": NAME_TOKEN + "|#" + NUMBER_TOKEN, "S": "left|right", "N": NAME_TOKEN, "I": NUMBER_TOKEN,
          "K": r"once|\[[1-9][0-9]{0,8}/" + NUMBER_TOKEN + r"\]"}


def enclosed_fault(text, start):
    """The fault of a sentence in parentheses, or None; and the index behind the parentheses."""
    if not text.startswith("(", start):
        return start, None
    closed = [end for end in range(start + 1, len(text) + 1)
              if text[start:end].count("(") == text[start:end].count(")")]
    inner = text[start + 1:closed[0] - 1] if closed else text[start + 1:]
    within = [index for index in range(len(inner)) if not begins_sentence(inner[:index + 1])]
    if within:
        return start + 1 + within[0], None
    if not closed or not is_sentence(inner):
        return start + 1 + len(inner), None
    if text[closed[0]:closed[0] + 1] not in ("", " "):
        return closed[0], None
    return None, closed[0]


def derivation_fault(text):
    """The index that point 24 asks for, or None for the text of a derivation."""
    awaited, at = "D", 0
    while awaited:
        first, awaited, at = awaited[0], awaited[1:], blank(text, at)
        run = text[at:].partition(" ")[0]
        if first == "T":
            fault, stop = enclosed_fault(text, at)
            if fault is not None:
                return fault
        elif first == "D" and run in ROWS:
            awaited, stop = ROWS[run] + awaited, at + len(run)
        elif first != "D" and re.fullmatch(TOKENS[first], run):
            stop = at + len(run)
        else:
            return at
        at = stop
    at = blank(text, at)
    return None if at == len(text) else at
