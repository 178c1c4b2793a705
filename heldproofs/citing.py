"""Which entries a derivation cites, directly or through other entries."""

from heldproofs.rows import heads


def cited_names(derivation):
    """The list of the names that a derivation cites, in preorder."""
    return [head[1] for head in heads(derivation) if head[0] == "cite"]


def reached_entries(library, derivation):
    """The names of the entries that a derivation needs, each behind those that it needs itself.

    Raises UnknownName for the first cite row in preorder that names no entry.
    """
    needed = {}
    waiting = cited_names(derivation)
    while waiting:
        name = waiting.pop(0)
        if name not in needed:
            needed[name] = True
            waiting.extend(cited_names(library.entry(name)[1]))
    # An entry cites only entries that came before it.
    return [name for name in library.entry_names() if name in needed]
