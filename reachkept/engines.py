"""How a machine stands, and the moves of which its ops are made."""

from reachkept.checking import tries_of
from reachkept.frames import AROUND, CODE, LEADING, PLACE, SORT, STEPPER, WAITING, chain, told_of
from reachkept.heaps import Heap


class Guide:
    """Sound codes, and for each code the open tries of its ops."""

    def __init__(self, codes):
        self.codes = codes
        self.tries = [tries_of(code) for code in codes[0]]


class Engine:
    """A machine in a run: its cells, a Heap, the ticks that are left, what was said, and the ending.

    Count is how many ops were done.
    """

    def __init__(self, guide, ticks, cells):
        self.guide = guide
        self.ticks = ticks
        self.cells = cells
        self.said = []
        self.ending = None
        self.count = 0

    def copied_on(self, cells):
        """Return an Engine like this one that goes on by itself, on a copy of its cells."""
        other = Engine(self.guide, self.ticks, cells)
        other.said = list(self.said)
        other.ending = self.ending
        other.count = self.count
        return other

    def running_frame(self):
        """Return the number of the frame that runs."""
        return self.cells.get(0, 0)[1]

    def where(self, frame):
        """Return the tuple of the code of a frame and the index of the op that it does next."""
        return self.cells.get(frame, CODE), self.cells.get(frame, PLACE)

    def op(self, frame):
        """Return the op that a frame does next, or at which it waits."""
        code, at = self.where(frame)
        return self.guide.codes[0][code][4][at]

    def kind_of_frame(self, frame):
        """Return the kind of the code of a frame."""
        return self.guide.codes[0][self.cells.get(frame, CODE)][2]

    def new_frame(self, code, outer, values):
        """Make a frame of a code in an outer one, with the values of its givens; return its number."""
        number = self.cells.new({field: None for field in LEADING})
        for field, value in ((SORT, "frame"), (AROUND, outer), (CODE, code), (PLACE, 0)):
            self.cells.put(number, field, value)
        for at in range(self.guide.codes[0][code][1]):
            self.cells.put(number, at, values[at] if at < len(values) else None)
        return number

    def begin(self):
        """Begin the next module, or end the run if there is none."""
        order = self.guide.codes[1]
        begun = 0
        while begun < len(order) and self.cells.get(0, 1 + begun) is not None:
            begun += 1
        if begun == len(order):
            self.finish(("done",))
            return
        frame = self.new_frame(order[begun], None, [])
        self.cells.put(0, 1 + begun, ("at", frame))
        self.let_run(frame)

    def finish(self, ending):
        """End the run; nothing runs any more."""
        self.cells.put(0, 0, None)
        self.ending = ending

    def let_run(self, frame):
        """Let a frame be the running one."""
        self.cells.put(0, 0, ("at", frame))

    def enter(self, frame, inner):
        """Let a frame wait for an inner one, which runs from now on."""
        self.cells.put(inner, WAITING, ("at", frame))
        self.let_run(inner)

    def go(self, frame, at):
        """Let an op be the next one of a frame."""
        self.cells.put(frame, PLACE, at)

    def go_on(self, frame):
        """Let the op behind its next one be the next one of a frame."""
        self.cells.put(frame, PLACE, self.cells.get(frame, PLACE) + 1)

    def give(self, frame, place, value):
        """Give a register of a frame a value, and go on behind its op."""
        self.cells.put(frame, place, value)
        self.go_on(frame)

    def tick(self):
        """Use up a tick and tell whether there was one; the run ends if there was none."""
        if self.ticks == 0:
            self.ending = ("ticks",)
            return False
        self.ticks = self.ticks - 1
        return True

    def is_deep(self):
        """Tell whether as many calls are open as may be."""
        return len(chain(self.cells)) - 1 >= 30

    def leave(self, frame):
        """Let the frame that waits for a frame run instead, and return it."""
        waiting = self.cells.get(frame, WAITING)[1]
        self.cells.put(frame, WAITING, None)
        self.let_run(waiting)
        return waiting

    def end_stepper(self, frame):
        """Let the generator of a frame, if it has one, be over."""
        stepper = self.cells.get(frame, STEPPER)
        if stepper is not None:
            self.cells.put(stepper[1], 0, None)
            self.cells.put(stepper[1], 1, 0)

    def throw(self, value):
        """Throw a value at the op of the running frame."""
        frame = self.running_frame()
        while not self._catch(frame, value):
            if self.kind_of_frame(frame) == "module":
                self.finish(("thrown", told_of(self.cells, value)))
                return
            self.end_stepper(frame)
            frame = self.leave(frame)

    def _catch(self, frame, value):
        """Go on at the place of the last open try of a frame, if there is one; tell whether there is."""
        code, at = self.where(frame)
        tries = self.guide.tries[code][at]
        if not tries:
            return False
        _, place, target = self.guide.codes[0][code][4][tries[-1]]
        self.cells.put(frame, target, value)
        self.go(frame, place)
        return True


def started(codes, ticks):
    """Return an Engine of sound codes in which the first module has begun."""
    return started_on(Heap(), codes, ticks)


def started_on(cells, codes, ticks):
    """Return such an Engine on a Heap that is still empty."""
    cells.new({SORT: "root", 0: None})
    for at in range(len(codes[1])):
        cells.put(0, 1 + at, None)
    engine = Engine(Guide(codes), ticks, cells)
    engine.begin()
    return engine
