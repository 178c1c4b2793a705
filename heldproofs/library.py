"""Libraries of defined words and of entries."""

from heldproofs.checking import check
from heldproofs.citing import reached_entries
from heldproofs.errors import BadName, Circular, InUse, NameTaken, UnknownName
from heldproofs.moving import moved
from heldproofs.names import is_name
from heldproofs.rows import from_heads, heads, placed_heads
from heldproofs.searching import search
from heldproofs.sentences import words_in


class Definition:
    """The makes and the opens of a word, the meetings of these, and which are missing."""

    def __init__(self, makes, opens):
        self.makes = list(makes)
        self.opens = list(opens)
        self.meetings = {}
        self.missing = []

    def meet(self, library, limit):
        """Look for a meeting of each make and each open."""
        for i, made in enumerate(self.makes):
            for j, opened in enumerate(self.opens):
                answer = search(library, ((("from", "once", made),), opened), limit=limit)
                if answer.outcome == "shown":
                    self.meetings[(i, j)] = answer.derivation
                else:
                    self.missing.append((i, j, answer.table))


class Library:
    """Defined words with their makes and opens, and entries with their derivations."""

    def __init__(self):
        self.changes = 0
        self._words = {}
        self._entries = {}

    def __contains__(self, name):
        """Whether the word is defined."""
        return name in self._words

    def __len__(self):
        """The number of defined words."""
        return len(self._words)

    def __iter__(self):
        """The names of the defined words in the order of their definition."""
        return iter(self._words)

    def makes_of(self, name):
        """The list of the makes of a word."""
        return list(self._words[name].makes) if name in self._words else []

    def opens_of(self, name):
        """The list of the opens of a word."""
        return list(self._words[name].opens) if name in self._words else []

    def meeting(self, name, i, j):
        """The derivation of an open from a make of a word, or None."""
        if name not in self._words:
            return None
        return self._words[name].meetings.get((i, j))

    def gaps(self):
        """The list of the makes and opens of words that have no meeting, with the refutations found."""
        found = []
        for name in self._words:
            for i, j, table in self._words[name].missing:
                found.append((name, i, j, None if table is None else list(table)))
        return found

    @property
    def is_whole(self):
        """Whether each make and each open of each word have a meeting."""
        for name in self._words:
            if len(self._words[name].missing) > 0:
                return False
        return True

    def entry(self, name):
        """The sentence and the derivation of an entry."""
        if name not in self._entries:
            raise UnknownName(name)
        return self._entries[name]

    def entry_names(self):
        """The list of the names of the entries in the order in which they came."""
        return list(self._entries)

    def twin(self):
        """A library with the same contents that goes its own way from here on."""
        made = Library()
        made.changes = self.changes
        # What stands under a name never changes, so both may have it.
        made._words = {name: self._words[name] for name in self._words}
        made._entries = {name: self._entries[name] for name in self._entries}
        return made

    def define(self, name, *, makes=(), opens=(), limit=500):
        """Define a word by the sentences from which it is made and into which it is opened."""
        if not is_name(name):
            raise BadName(name)
        if name in self._words:
            raise NameTaken(name)
        made = Definition(makes, opens)
        if defines_by(made, name):
            raise Circular(name)
        if self._needs(name):
            raise InUse(name)
        made.meet(self, limit)
        self._words[name] = made
        self.changes += 1

    def undefine(self, name):
        """Take the definition of a word back."""
        if name not in self._words:
            raise UnknownName(name)
        if self._needs(name):
            raise InUse(name)
        del self._words[name]
        self.changes += 1

    def _needs(self, name):
        """Whether a definition or an entry needs a word as it is."""
        for other in self._words:
            if defines_by(self._words[other], name):
                return True
        for other in self._entries:
            sentence, derivation = self._entries[other]
            if name in words_in(sentence) or is_word_of(derivation, name):
                return True
        return False

    def keep(self, name, sentence, derivation):
        """Add an entry."""
        if not is_name(name):
            raise BadName(name)
        if name in self._entries:
            raise NameTaken(name)
        check(self, ((), sentence), derivation)
        self._entries[name] = (sentence, derivation)
        self.changes += 1

    def forget(self, name):
        """Take an entry out."""
        if name not in self._entries:
            raise UnknownName(name)
        for other in self._entries:
            if ("cite", name) in heads(self._entries[other][1]):
                raise InUse(name)
        del self._entries[name]
        self.changes += 1


def defines_by(definition, name):
    """Whether a word occurs in a make or an open of a definition."""
    for sentence in definition.makes + definition.opens:
        if name in words_in(sentence):
            return True
    return False


def is_word_of(derivation, name):
    """Whether a word occurs in a row cut, make or open of a derivation."""
    for head in heads(derivation):
        if head[0] == "cut" and name in words_in(head[2]):
            return True
        if head[0] == "make" and head[1] == name or head[0] == "open" and head[2] == name:
            return True
    return False


def unfolded(library, derivation):
    """The derivation in which what is cited stands in place of each cite row."""
    ready = {}
    for name in reached_entries(library, derivation):
        ready[name] = without_cites(library.entry(name)[1], ready)
    return without_cites(derivation, ready)


def without_cites(derivation, ready):
    """The derivation with derivations that have no cite row in place of its cite rows."""
    found = []
    for head, level in placed_heads(derivation, 0):
        if head[0] == "cite":
            found.extend(heads(moved(ready[head[1]], 0, level, {})))
        else:
            found.append(head)
    return from_heads(found)
