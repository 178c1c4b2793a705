"""An independent reader of sentences and claims, for whole texts only, and what they begin.

It is slow and plain: it says whether a text is right, and whether it is the
beginning of a right one, by trying endings.
"""

import re

NAME = re.compile(r"[a-z][a-z0-9]{0,11}(?![a-z0-9])")
NUMBER = re.compile(r"(0|[1-9][0-9]{0,8})(?![a-z0-9])")


def blank(text, at):
    while at < len(text) and text[at] == " ":
        at += 1
    return at


def token(text, at, sign):
    at = blank(text, at)
    if at is not None and text.startswith(sign, at):
        return at + len(sign)
    return None


def number(text, at, zero):
    match = NUMBER.match(text, blank(text, at))
    if match is None or (not zero and match.group() == "0"):
        return None
    return match.end()


def kind(text, at):
    """The end of [uses/days], or None."""
    for read in (lambda at: token(text, at, "["), lambda at: number(text, at, False),
                 lambda at: token(text, at, "/"), lambda at: number(text, at, True),
                 lambda at: token(text, at, "]")):
        at = read(at)
        if at is None:
            return None
    return at


def atom(text, at):
    at = blank(text, at)
    match = NAME.match(text, at)
    if match:
        return match.end()
    if not text.startswith("(", at):
        return None
    inner = sentence(text, at + 1)
    return None if inner is None else token(text, inner, ")")


def sentence(text, at):
    """The end of the longest sentence that begins there, or None."""
    at = atom(text, at)
    while at is not None and token(text, at, "&") is not None:
        at = atom(text, token(text, at, "&"))
    if at is None:
        return None
    behind = at
    if token(text, at, "[") is not None:
        behind = kind(text, at)
        if behind is None or token(text, behind, ">") is None:
            return None
    if token(text, behind, ">") is not None:
        return sentence(text, token(text, behind, ">"))
    return at


def is_sentence(text):
    end = sentence(text, 0)
    return end is not None and blank(text, end) == len(text)


def is_claim(text):
    """Whether the text is right but for repeated names."""
    at = 0
    if token(text, 0, "|-") is None:
        while True:
            at = blank(text, at)
            match = NAME.match(text, at)
            if match is None:
                return False
            at = match.end()
            if token(text, at, "[") is not None:
                at = kind(text, at)
                if at is None:
                    return False
            at = token(text, at, ":")
            if at is None:
                return False
            at = sentence(text, at)
            if at is None:
                return False
            if token(text, at, ",") is None:
                break
            at = token(text, at, ",")
    at = token(text, at, "|-")
    return at is not None and is_sentence(text[at:])


# What can complete the text of a sentence at any place of its grammar.
ENDINGS = ["", "a", "1/1]>a", "/1]>a", "1]>a", "]>a", ">a"]
CLAIM_ENDINGS = ["", ":a", "a:a", "1/1]:a", "/1]:a", "1]:a", "]:a"]


def begins_sentence(text):
    """Whether the text is the beginning of some text of a sentence."""
    return any(is_sentence(text + ending + ")" * count)
               for ending in ENDINGS for count in range(text.count("(") + 1))


def begins_claim(text):
    """Whether the text is the beginning of some text of a claim, but for repeated names."""
    endings = [ending + ")" * count for ending in ENDINGS for count in range(text.count("(") + 1)]
    return any(is_claim(text + ending + goal)
               for ending in endings + CLAIM_ENDINGS for goal in ("", "|-a", "-a"))
