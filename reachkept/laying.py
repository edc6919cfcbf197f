"""The way through a trace that lies at a turn, as one op of a machine."""

from reachkept.frames import kind_of, told_of
from reachkept.walks import Walk
from reachkept.works import worked


class Pass(Walk):
    """The way through a trace on cells of a machine, in which works give what they give in programs."""

    def is_cell(self, value):
        """Tell whether a value is a cell for the steps; functions and generators are none."""
        return kind_of(self.cells, value) == "cell"

    def telling(self, value):
        """Return what is told of a value."""
        return told_of(self.cells, value)

    def work(self, op, one, other):
        """Return the tuple of what a work gives, or an empty one if it would throw."""
        value, thrown = worked(op, one, other)
        return (value,) if thrown is None else ()


def go_through(engine, place, trace):
    """Go through the trace that lies at a turn, a tuple (code, op), in the running frame of an Engine."""
    code, op = place
    many = engine.guide.codes[0][code][1]
    frame = engine.running_frame()
    worths = [engine.cells.get(frame, at) for at in range(many)] + [None] * (trace[0] - many)
    walk = Pass(engine.cells, worths, {})
    left = walk.through(trace[2])
    for at in range(many):
        engine.cells.put(frame, at, walk.worths[at])
    engine.go(frame, op if left is None else left)
    engine.said.extend(walk.said)
    engine.count = engine.count + 1
