"""The errors that the program raises."""


class HeldError(ValueError):
    """The base class of all errors that the program raises."""


class BadName(HeldError):
    """A string that should be a name is none."""

    def __init__(self, name):
        self.name = name


class NameTaken(HeldError):
    """A name that should be new is in use for something of its kind."""

    def __init__(self, name):
        self.name = name


class UnknownName(HeldError):
    """Nothing has this name."""

    def __init__(self, name):
        self.name = name


class InUse(HeldError):
    """What has this name is needed by something else."""

    def __init__(self, name):
        self.name = name


class Circular(HeldError):
    """A word would be defined by itself."""

    def __init__(self, name):
        self.name = name


class NoRoom(HeldError):
    """The kind of this hold leaves no room for what is asked."""

    def __init__(self, name):
        self.name = name


class LeftOver(HeldError):
    """A hold that must be used exactly once would be left over."""

    def __init__(self, name):
        self.name = name


class WrongHold(HeldError):
    """The sentence of this hold has the wrong form."""

    def __init__(self, name):
        self.name = name


class BadKind(HeldError):
    """A value is no kind, or not one that fits here."""

    def __init__(self, kind):
        self.kind = kind


class TextError(HeldError):
    """A text has the wrong form; the fault is at this index."""

    def __init__(self, index):
        self.index = index


class NoPart(HeldError):
    """A path leads to no place of a derivation."""

    def __init__(self, path):
        self.path = path


class NotBare(HeldError):
    """A derivation has a cut row or a cite row at this path."""

    def __init__(self, path):
        self.path = path


class DerivationError(HeldError):
    """A derivation does not show a claim."""

    def __init__(self, path, reason):
        self.path = path
        self.reason = reason


class NoStep(HeldError):
    """There is no such step, or no such exchange."""

    def __init__(self, path, way):
        self.path = path
        self.way = way


class NoMeeting(HeldError):
    """The library has no meeting of this make and this open."""

    def __init__(self, name, make_index, open_index):
        self.name = name
        self.make_index = make_index
        self.open_index = open_index


class BadWorld(HeldError):
    """A table of products and facts is no world."""

    def __init__(self, reason):
        self.reason = reason


class WorldTooLarge(HeldError):
    """A world would need more than this many elements."""

    def __init__(self, limit):
        self.limit = limit


class NoGoal(HeldError):
    """No goal of this number is open."""

    def __init__(self, number):
        self.number = number


class GoalsLeft(HeldError):
    """So many goals are open yet."""

    def __init__(self, count):
        self.count = count


class WrongGoal(HeldError):
    """The goal has the wrong form."""


class NotSimple(HeldError):
    """A sentence contains a menu or a stock kind."""


class NotAlike(HeldError):
    """Two derivations have different readings."""


class NotOnce(HeldError):
    """A kind is not the kind once."""


class NotPlain(HeldError):
    """A claim has a menu at a goal place."""


class NothingToUndo(HeldError):
    """No tactic has been done that could be taken back."""


class NothingToRedo(HeldError):
    """No tactic has been taken back that could be done again."""
