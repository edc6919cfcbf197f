"""The ways that a trace may go from the starts of a world."""


class Way:
    """How far a trace has gone from the starts of a World: its next step, and what the registers have.

    Stores are tuples (cell, field, value) of unknowns, the last one of each cell and field. Question
    is what had to be known for the next step, and finished whether the way goes no further.
    """

    def __init__(self, world, steps):
        self.world = world
        self.path = steps
        self.at = 0
        self.worths = list(range(world.size))
        self.stores = []
        self.question = None
        self.finished = False

    def copied(self):
        """Return a Way like this one that goes on by itself."""
        other = Way(self.world.copied(), self.path)
        other.at = self.at
        other.worths = list(self.worths)
        other.stores = list(self.stores)
        return other

    def go(self):
        """Go on until the end, or until a step is left, or until a question is open."""
        while self.at < len(self.path):
            step = self.path[self.at]
            action = STEP_THOUGHTS[step[1]]
            done = action(self, step)
            if done is None:
                return
            if not done:
                break
            self.at += 1
        self.finished = True

    def ask(self, question):
        """Return whether a question is so; where this is not supposed, note the question and return None."""
        truth = self.world.answer(question)
        if truth is None:
            self.question = question
        return truth


def ways(world, trace):
    """Return the list of the Ways that a trace goes from the starts of a World, each with a World of its own.

    Each start belongs to the World of just one of them. What is supposed in each World may be so.
    """
    found = []
    waiting = [Way(world.copied(), trace[2])]
    while waiting:
        way = waiting.pop()
        way.go()
        if way.finished:
            found.append(way)
        else:
            for truth in (False, True):
                further = way.copied()
                if further.world.suppose(way.question, truth):
                    waiting.append(further)
    return found


# Each of these does a step and returns True, or False where it is left, or None where a question is
# open; nothing is changed then, and the step is done once more when it has an answer.


def _give(way, step, one):
    way.worths[step[2]] = one
    return True


def _give_truth(way, step, truth):
    """Give the first register of a step 1 or 0, by a truth that may be None."""
    if truth is None:
        return None
    return _give(way, step, way.world.plain(1 if truth else 0))


def _keep(way, step):
    return _give(way, step, way.world.plain(step[3]))


def _move(way, step):
    return _give(way, step, way.worths[step[3]])


def _work(way, step):
    _, _, _, op, one, other = step
    for place in (one, other):
        cell = way.ask(("cell", way.worths[place]))
        if cell is not False:
            return None if cell is None else False
    question = ("work", op, way.worths[one], way.worths[other])
    truth = way.ask(question)
    return _give(way, step, way.world.result(question)) if truth else truth


def _same(way, step):
    return _give_truth(way, step, way.ask(("alike", way.worths[step[3]], way.worths[step[4]])))


def _is(way, step):
    return _give_truth(way, step, way.ask(("cell", way.worths[step[3]])))


def _cell(way, step):
    return _give(way, step, way.world.new_cell())


def _stored(way, one, field):
    """Return whether there is a cell, or None for a question, and the list of the stores into a field of it.

    There is one such store at most.
    """
    cell = way.ask(("cell", one))
    if cell:
        for store in way.stores:
            if store[1] == field:
                alike = way.ask(("alike", store[0], one))
                if alike is not False:
                    return alike, [store]
    return cell, []


def _load(way, step):
    _, _, _, place, field = step
    one = way.worths[place]
    cell, stores = _stored(way, one, field)
    if not cell:
        return cell
    if stores:
        return _give(way, step, stores[0][2])
    question = ("field", one, field)
    truth = way.ask(question)
    return _give(way, step, way.world.result(question)) if truth else truth


def _store(way, step):
    _, _, place, field, other = step
    one = way.worths[place]
    cell, stores = _stored(way, one, field)
    if not cell:
        return cell
    way.stores = [store for store in way.stores if store not in stores] + [(one, field, way.worths[other])]
    return True


def _tell(way, step):
    return True


def _so(way, step):
    for value in (0, None):
        alike = way.ask(("alike", way.worths[step[2]], way.world.plain(value)))
        if alike is None:
            return None
        if alike:
            return not step[3]
    return step[3]


def _guard(truth, wanted):
    return None if truth is None else truth == wanted


def _alike(way, step):
    return _guard(way.ask(("alike", way.worths[step[2]], way.worths[step[3]])), step[4])


def _kind(way, step):
    return _guard(way.ask(("cell", way.worths[step[2]])), step[3])


STEP_THOUGHTS = {
    "keep": _keep,
    "move": _move,
    "work": _work,
    "same": _same,
    "is": _is,
    "cell": _cell,
    "load": _load,
    "store": _store,
    "tell": _tell,
    "so": _so,
    "alike": _alike,
    "kind": _kind,
}
