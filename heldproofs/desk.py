"""Desks, at which derivations are built from their goals upward."""

from heldproofs.assembling import assembled
from heldproofs.errors import GoalsLeft, NoGoal, NothingToRedo, NothingToUndo
from heldproofs.searching import search
from heldproofs.tactics import new_goals


class Standing:
    """How a desk stands: its open goals by their numbers, the next number, and the tactics that were done."""

    def __init__(self, goals, upcoming, done):
        self.goals = goals
        self.upcoming = upcoming
        self.done = done

    def behind(self, told, claims):
        """How a desk stands behind a tactic that opens goals with these claims."""
        goals = {number: self.goals[number] for number in self.goals if number != told[1]}
        numbers = list(range(self.upcoming, self.upcoming + len(claims)))
        for number, claim in zip(numbers, claims):
            goals[number] = claim
        done = self.done + [(self.goals[told[1]], told, numbers)]
        return Standing(goals, self.upcoming + len(claims), done)


class Desk:
    """Open goals, and what the tactics so far have built below them."""

    def __init__(self, library, claim):
        self.library = library
        self._standing = Standing({0: claim}, 1, [])
        self._past = []
        self._future = []

    def __len__(self):
        """The number of open goals."""
        return len(self._standing.goals)

    def __iter__(self):
        """The numbers of the open goals in ascending order."""
        return iter(self._standing.goals)

    def numbers(self):
        """The ascending list of the numbers of the open goals."""
        # Each new goal gets a greater number and comes behind the others.
        return list(self._standing.goals)

    def goal(self, number):
        """The claim of an open goal."""
        if number not in self._standing.goals:
            raise NoGoal(number)
        return self._standing.goals[number]

    def do(self, told):
        """Do a tactic that is written as in the journal; the list of the numbers of the new goals."""
        claims = new_goals(self.library, self.goal(told[1]), told)
        first = self._standing.upcoming
        self._past.append(self._standing)
        self._future = []
        self._standing = self._standing.behind(told, claims)
        return list(range(first, first + len(claims)))

    def own(self, number, hold):
        """Close a goal with a hold."""
        return self.do(("own", number, hold))

    def take(self, number, new):
        """Take the price of a goal for a new hold."""
        return self.do(("take", number, new))

    def offer(self, number):
        """Show each side of a goal."""
        return self.do(("offer", number))

    def pick(self, number, hold, side, new):
        """Pick a side of a hold for a new hold."""
        return self.do(("pick", number, hold, side, new))

    def pay(self, number, hold, new, *, share=()):
        """Show the price of a hold with the shared holds, and get the goods for a new hold."""
        return self.do(("pay", number, hold, new, pairs_of(share)))

    def make(self, number, index):
        """Show a make of a goal."""
        return self.do(("make", number, index))

    def unpack(self, number, hold, index, new):
        """Open a hold for a new hold."""
        return self.do(("unpack", number, hold, index, new))

    def cut(self, number, sentence, new, *, kind="once", share=()):
        """Show a sentence with the shared holds, and get it for a new hold."""
        return self.do(("cut", number, sentence, new, kind, pairs_of(share)))

    def cite(self, number, entry):
        """Close a goal with an entry of the library."""
        return self.do(("cite", number, entry))

    def fill(self, number, derivation):
        """Close a goal with a derivation of its claim."""
        return self.do(("fill", number, derivation))

    def seek(self, number, *, limit=500):
        """Search for a derivation of the claim of a goal and close the goal with it; whether one was found."""
        answer = search(self.library, self.goal(number), limit=limit)
        if answer.outcome != "shown":
            return False
        self.fill(number, answer.derivation)
        return True

    def undo(self):
        """Take the last tactic back."""
        if not self._past:
            raise NothingToUndo()
        self._future.append(self._standing)
        self._standing = self._past.pop()

    def redo(self):
        """Put the desk back as it was before the last undo."""
        if not self._future:
            raise NothingToRedo()
        self._past.append(self._standing)
        self._standing = self._future.pop()

    def journal(self):
        """The list of the tactics that were done and not taken back."""
        return [told for _, told, _ in self._standing.done]

    @property
    def is_finished(self):
        """Whether no goal is open."""
        return len(self._standing.goals) == 0

    def built(self):
        """The derivation that the tactics have built."""
        if not self.is_finished:
            raise GoalsLeft(len(self))
        return assembled(self._standing.done)


def pairs_of(share):
    """What is shared, as a tuple of pairs."""
    return tuple([(name, uses) for name, uses in share])


def replay(library, claim, journal):
    """A new desk on which the tactics of a journal have been done."""
    desk = Desk(library, claim)
    for told in journal:
        desk.do(told)
    return desk
