"""The way through the steps of a trace, on a heap and values of registers."""

from reachkept.kinds import is_at
from reachkept.works import is_so


class Walk:
    """Cells, a Heap, and the values of registers as worths, both of which steps change; and what works mean.

    Meaning is a dict from tuples (op, one, other) to what such a work gives. Said is what was told.
    """

    def __init__(self, cells, worths, meaning):
        self.cells = cells
        self.worths = worths
        self.meaning = meaning
        self.said = []

    def through(self, steps):
        """Go through steps; return the exit of the one at which they are left, or None at the end."""
        for step in steps:
            action = STEP_DOINGS[step[1]]
            if not action(self, step):
                return step[0]
        return None

    def is_cell(self, value):
        """Tell whether a value is a cell for the steps."""
        return is_at(value)

    def telling(self, value):
        """Return what is told of a value."""
        if value is None:
            return "nothing"
        return "cell" if is_at(value) else value

    def work(self, op, one, other):
        """Return the tuple of what a work gives, or an empty one if it cannot be done."""
        if self.is_cell(one) or self.is_cell(other) or (op, one, other) not in self.meaning:
            return ()
        return (self.meaning[(op, one, other)],)


# Each of these does a step and tells whether it could be done.


def _keep(walk, step):
    walk.worths[step[2]] = step[3]
    return True


def _move(walk, step):
    walk.worths[step[2]] = walk.worths[step[3]]
    return True


def _work(walk, step):
    _, _, target, op, one, other = step
    results = walk.work(op, walk.worths[one], walk.worths[other])
    for value in results:
        walk.worths[target] = value
    return len(results) > 0


def _same(walk, step):
    _, _, target, one, other = step
    walk.worths[target] = 1 if walk.worths[one] == walk.worths[other] else 0
    return True


def _is(walk, step):
    walk.worths[step[2]] = 1 if walk.is_cell(walk.worths[step[3]]) else 0
    return True


def _cell(walk, step):
    walk.worths[step[2]] = ("at", walk.cells.new({}))
    return True


def _load(walk, step):
    _, _, target, place, field = step
    value = walk.worths[place]
    if not walk.is_cell(value) or not walk.cells.has(value[1], field):
        return False
    walk.worths[target] = walk.cells.get(value[1], field)
    return True


def _store(walk, step):
    _, _, place, field, other = step
    value = walk.worths[place]
    if not walk.is_cell(value):
        return False
    walk.cells.put(value[1], field, walk.worths[other])
    return True


def _tell(walk, step):
    walk.said.append(walk.telling(walk.worths[step[2]]))
    return True


def _so(walk, step):
    return is_so(walk.worths[step[2]]) == step[3]


def _alike(walk, step):
    return (walk.worths[step[2]] == walk.worths[step[3]]) == step[4]


def _kind(walk, step):
    return walk.is_cell(walk.worths[step[2]]) == step[3]


STEP_DOINGS = {
    "keep": _keep,
    "move": _move,
    "work": _work,
    "same": _same,
    "is": _is,
    "cell": _cell,
    "load": _load,
    "store": _store,
    "tell": _tell,
    "so": _so,
    "alike": _alike,
    "kind": _kind,
}
