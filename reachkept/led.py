"""Machines along which a collector goes, and on whose turns traces may lie."""

from reachkept.checking import is_sound
from reachkept.codes import is_codes
from reachkept.collectors import Collector
from reachkept.doings import do_next
from reachkept.engines import started_on
from reachkept.errors import NoFit, NoTrace, Over, Wrong
from reachkept.kinds import is_natural
from reachkept.laying import go_through
from reachkept.ledgers import Ledger
from reachkept.machines import STILL, Machine
from reachkept.plans import is_plan
from reachkept.recording import fits, way_steps
from reachkept.stands import Stand


class Led(Machine):
    """A Machine along which a collector goes by a plan, at the pace that a schedule tells."""

    def __init__(self, codes, ticks, plan, schedule):
        if not is_codes(codes) or not is_sound(codes):
            raise Wrong(0)
        if not is_natural(ticks):
            raise Wrong(1)
        if not is_plan(plan):
            raise Wrong(2)
        if not isinstance(schedule, (list, tuple)) or not is_schedule(tuple(schedule)):
            raise Wrong(3)
        cells = Ledger()
        self.engine = started_on(cells, codes, ticks)
        self._collector = Collector(Stand(cells, (0,), plan), tuple(schedule))
        self._collector.heed()
        self._traces = {}
        # The tuple (code, op) of the turn that was done just now, if a trace lay there.
        self._awaited = None

    def step(self):
        """Do the next op, and return the list of what was told by it."""
        if self.engine.ending is not None:
            raise Over()
        many = len(self.engine.said)
        self._do_next()
        return self.engine.said[many:]

    def run(self):
        """Do ops until the run has ended, and return the list of what was told by them."""
        if self.engine.ending is not None:
            raise Over()
        many = len(self.engine.said)
        while self.engine.ending is None:
            self._do_next()
        return self.engine.said[many:]

    def told(self):
        """Return the list of all that was told."""
        return list(self.engine.said)

    def end(self):
        """Return how the run has ended, or None."""
        return self.engine.ending

    def left(self):
        """Return how many ticks are left."""
        return self.engine.ticks

    def heap(self):
        """Return a copy of the Heap."""
        return self.engine.cells.copied()

    def done(self):
        """Return how many ops were done."""
        return self.engine.count

    def copied(self):
        """Return a Led machine in the same state."""
        # These arguments have been checked, which need not be done once more.
        other = Led(STILL, 0, self._collector.stand.rules, (0,))
        cells = self.engine.cells.twin()
        other.engine = self.engine.copied_on(cells)
        other._collector = self._collector.copied_on(cells)
        other._traces = {place: self._traces[place] for place in self._traces}
        other._awaited = self._awaited
        return other

    def lost(self):
        """Return the ascending list of the lost cells."""
        return list(self._collector.lacking)

    def colours(self):
        """Return the dict from the cells to their colours, or an empty one when the collector is idle."""
        shades = self._collector.stand.shades
        return {number: shades[number] for number in sorted(shades)}

    def ended(self):
        """Return how often the collector has ended."""
        return self._collector.rounds

    def freed(self):
        """Return how many cells the collector has freed."""
        return self._collector.swept

    def lay(self, code, op, truths, trace):
        """Lay a trace at a turn, for the way from there by truths."""
        codes = self.engine.guide.codes
        if way_steps(codes, code, op, truths) is None:
            raise NoTrace()
        if not fits(codes, code, op, truths, trace):
            raise NoFit()
        self._traces[(code, op)] = trace

    def laid(self):
        """Return the ascending list of the tuples (code, op) at which traces lie."""
        return sorted(self._traces)

    def coming(self):
        """Return the tuple (frame, code, op) of what is done next, or None if it is a trace or nothing."""
        if self.engine.ending is not None or self._awaited is not None:
            return None
        frame = self.engine.running_frame()
        code, op = self.engine.where(frame)
        return frame, code, op

    def many_cells(self):
        """Return how many cells the Heap has."""
        return len(self.engine.cells)

    def _do_next(self):
        """Do what is done next, and then the steps of the collector."""
        count = self.engine.count
        if self._awaited is None:
            self._do_op()
        else:
            go_through(self.engine, self._awaited, self._traces[self._awaited])
            self._awaited = None
        if self.engine.count > count:
            self._collector.heed()
            self._collector.go_along(count)
            if self._collector.lacking:
                self.engine.ending = ("lost",)

    def _do_op(self):
        place = self.engine.where(self.engine.running_frame())
        do_next(self.engine)
        if place in self._traces:
            self._awaited = place


def is_schedule(thing):
    """Tell whether a thing is a tuple, not empty, of integers from 0 to 50."""
    if not isinstance(thing, tuple) or len(thing) == 0:
        return False
    return all([is_natural(part) and part <= 50 for part in thing])
