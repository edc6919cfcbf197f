"""Houses: programs with a plan, a schedule and claims, made by deeds that can be taken back."""

from reachkept.deeds import outcome
from reachkept.errors import Nothing, Stopped, Wrong
from reachkept.manners import ran_led
from reachkept.programs import Program
from reachkept.refusals import raise_refusal

FIRST_PLAN = ("whole", "kept", "black", ("new",), (), ())


class House:
    """A Program, a plan, a schedule and claims, and the deeds by which they came about.

    Past has the deeds that were done, and undone those that were taken back, the last one last, each
    with how the house stood ahead of it, or behind it.
    """

    def __init__(self, program):
        if not isinstance(program, Program):
            raise Wrong(0)
        self._state = (program, FIRST_PLAN, (1,), ())
        self._past = []
        self._undone = []

    def __eq__(self, other):
        return isinstance(other, House) and self._state == other._state

    def __len__(self):
        return len(self._past)

    def do(self, deed):
        """Do a deed."""
        raise_refusal(self.attempt(deed))

    def attempt(self, deed):
        """Do a deed, unless it is refused; return the refusal, or an empty tuple."""
        refused, state = outcome(self._state, deed)
        if not refused:
            self._past.append((deed, self._state))
            self._state = state
            self._undone = []
        return refused

    def program(self):
        """Return the Program."""
        return self._state[0]

    def plan(self):
        """Return the plan."""
        return self._state[1]

    def schedule(self):
        """Return the schedule."""
        return self._state[2]

    def claims(self):
        """Return the list of the claims."""
        return list(self._state[3])

    def run(self, ticks):
        """Return what a Led machine of the Program tells, how it ends, and how many ticks are left."""
        return ran_led(self._state[0], ticks, self._state[1], self._state[2])

    def log(self):
        """Return the list of the deeds that made the house."""
        return [deed for deed, _ in self._past]

    def back(self):
        """Take back the last deed and return it."""
        if not self._past:
            raise Nothing()
        deed, state = self._past.pop()
        self._undone.append((deed, self._state))
        self._state = state
        return deed

    def again(self):
        """Do the deed that was taken back last once more and return it."""
        if not self._undone:
            raise Nothing()
        deed, state = self._undone.pop()
        self._past.append((deed, self._state))
        self._state = state
        return deed

    def may_again(self):
        """Tell whether there is a deed that was taken back and may be done once more."""
        return len(self._undone) > 0

    def copied(self):
        """Return a House like this one that goes on by itself."""
        other = House(self._state[0])
        other._state = self._state
        other._past = list(self._past)
        other._undone = list(self._undone)
        return other

    def trial(self, deeds):
        """Return a copy with all deeds of a list done."""
        other = self.copied()
        for index, deed in enumerate(deeds):
            if other.attempt(deed):
                raise Stopped(index)
        return other
