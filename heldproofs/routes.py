"""The ways of a sentence, with what is done on them.

A route is a pair of a list of actions and the name of the word in which it
ends. An action is `("pay", kind, price)`, `("pick", side)` or
`("open", name, index)`.
"""


def routes(library, sentence):
    """The list of the routes of a sentence, in the order of its ways."""
    found = []
    # A list of what is waiting, not calls within calls: words nest in the opens of words.
    waiting = [([], sentence)]
    while waiting:
        actions, here = waiting.pop()
        if here[0] == "word":
            found.append((actions, here[1]))
        waiting.extend(further(library, actions, here)[::-1])
    return found


def further(library, actions, here):
    """Where the routes that have come to a sentence can go on, each with its actions."""
    if here[0] == "trade":
        return [(actions + [("pay", here[1], here[2])], here[3])]
    if here[0] == "menu":
        return [(actions + [("pick", "left")], here[1]), (actions + [("pick", "right")], here[2])]
    opens = library.opens_of(here[1])
    return [(actions + [("open", here[1], index)], inner) for index, inner in enumerate(opens)]


def prices_on(actions):
    """The list of the prices that are paid on a route, each with its kind."""
    return [(action[1], action[2]) for action in actions if action[0] == "pay"]
