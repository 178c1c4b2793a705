"""What a derivation needs of a library, directly or through what it needs."""

from heldproofs.rows import heads


def cited_names(derivation):
    """The list of the names that a derivation cites, in preorder."""
    return [head[1] for head in heads(derivation) if head[0] == "cite"]


def opened_words(derivation):
    """The list of the words that a derivation opens, each with the index of the open, in preorder."""
    return [(head[2], head[3]) for head in heads(derivation) if head[0] == "open"]


def reached_entries(library, derivation):
    """The names of the entries that a derivation needs, each behind those that it needs itself.

    Raises UnknownName for the first cite row in preorder that names no entry.
    """
    needed = {}
    waiting = cited_names(derivation)
    while waiting:
        name = waiting.pop(0)
        if name not in needed:
            needed[name] = True
            waiting.extend(cited_names(library.entry(name)[1]))
    # An entry cites only entries that came before it.
    return [name for name in library.entry_names() if name in needed]


def meetings_of(library, name, index):
    """The list of the meetings of an open of a word, by the index of the make."""
    found = [library.meeting(name, i, index) for i in range(len(library.makes_of(name)))]
    return [meeting for meeting in found if meeting is not None]


def reached_opens(library, derivations):
    """The words that derivations open, each with the index, behind those that its meetings open."""
    needed = {}
    waiting = [opened for derivation in derivations for opened in opened_words(derivation)]
    while waiting:
        name, index = waiting.pop()
        if (name, index) not in needed:
            needed[(name, index)] = True
            for meeting in meetings_of(library, name, index):
                waiting.extend(opened_words(meeting))
    # A meeting opens only words that were defined before its own.
    return [(name, index) for name in library for other, index in needed if other == name]
