"""Moving derivations to another level, and their free references."""

from heldproofs.rows import from_heads, heads, refers


def moved(derivation, old, new, renamed):
    """The derivation at level old, changed to stand at level new, with other references renamed."""
    return from_heads([moved_head(head, old, new, renamed) for head in heads(derivation)])


def moved_head(head, old, new, renamed):
    """The head of one row of a derivation that is moved."""
    if not refers(head):
        return head
    ref = head[1]
    if is_below(ref, old):
        ref = renamed.get(ref, ref)
    else:
        ref = ref + new - old
    return (head[0], ref) + head[2:]


def is_below(ref, level):
    """Whether a reference is a name, or a level below this one."""
    return isinstance(ref, str) or ref < level


def occurs(derivation, ref):
    """Whether some row of a derivation has this reference."""
    for head in heads(derivation):
        if refers(head) and head[1] == ref:
            return True
    return False


def free_refs(derivation, level):
    """The list of the different references that lead out of a derivation at this level."""
    found = {}
    for head in heads(derivation):
        if refers(head) and is_below(head[1], level):
            found[head[1]] = True
    return list(found)
