"""Machines that run codes on a heap."""

from reachkept.checking import is_sound
from reachkept.codes import is_codes
from reachkept.doings import do_next
from reachkept.engines import started
from reachkept.errors import Over, Wrong
from reachkept.kinds import is_natural

STILL = (((0, 0, "module", None, (("end",),)),), (0,))


class Machine:
    """A run of sound codes with so many ticks, which goes on op by op."""

    def __init__(self, codes, ticks):
        if not is_codes(codes) or not is_sound(codes):
            raise Wrong(0)
        if not is_natural(ticks):
            raise Wrong(1)
        self.engine = started(codes, ticks)

    def step(self):
        """Do the next op, and return the list of what was told by it."""
        if self.engine.ending is not None:
            raise Over()
        many = len(self.engine.said)
        do_next(self.engine)
        return self.engine.said[many:]

    def run(self):
        """Do ops until the run has ended, and return the list of what was told by them."""
        if self.engine.ending is not None:
            raise Over()
        many = len(self.engine.said)
        while self.engine.ending is None:
            do_next(self.engine)
        return self.engine.said[many:]

    def told(self):
        """Return the list of all that was told."""
        return list(self.engine.said)

    def end(self):
        """Return how the run has ended, or None."""
        return self.engine.ending

    def left(self):
        """Return how many ticks are left."""
        return self.engine.ticks

    def heap(self):
        """Return a copy of the Heap."""
        return self.engine.cells.copied()

    def done(self):
        """Return how many ops were done."""
        return self.engine.count

    def copied(self):
        """Return a Machine in the same state."""
        return machine_on(self.engine.copied_on(self.engine.cells.copied()))

    def coming(self):
        """Return the tuple (frame, code, op) of what is done next, or None if the run has ended."""
        if self.engine.ending is not None:
            return None
        frame = self.engine.running_frame()
        code, op = self.engine.where(frame)
        return frame, code, op


def machine_on(engine):
    """Return a Machine that goes on with an Engine."""
    # These codes have been checked, which need not be done once more.
    machine = Machine(STILL, 0)
    machine.engine = engine
    return machine
