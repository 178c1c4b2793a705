"""Runs: taking one step after another."""

from heldproofs.stepping import do_step, steps


def run(library, derivation, choices, *, limit=1000):
    """Take steps as the choices say until none exists or the limit is reached.

    Returns the last derivation and the list of the steps taken.
    """
    here = derivation
    taken = []
    while len(taken) < limit:
        found = steps(library, here)
        if not found:
            break
        choice = choices[len(taken) % len(choices)] if choices else 0
        step = found[choice % len(found)]
        here = do_step(library, here, step)
        taken.append(step)
    return here, taken


def finish(library, derivation):
    """A derivation without steps to which steps lead."""
    here = derivation
    found = steps(library, here)
    while found:
        # The last cut in preorder: what is copied later on has few cuts left then.
        here = do_step(library, here, found[-1])
        found = steps(library, here)
    return here
