"""Whether two traces do the same, from all starts and whatever works mean; and what becomes of their steps."""

from reachkept.errors import Unlike
from reachkept.likeness import matched
from reachkept.traces import gone, is_start, registers_of, renamed_step
from reachkept.ways import ways
from reachkept.worlds import World


def do_same(one, other):
    """Tell whether the runs of two traces end alike from all starts."""
    _must_be_like(one, other)
    # Registers that are neither used nor kept are left out: there may be more than can be gone through.
    used = sorted(set(list(one[1]) + [place for step in one[2] + other[2] for place in registers_of(step)]))
    places = {place: at for at, place in enumerate(used)}
    return parting(_narrow(one, places), _narrow(other, places)) is None


def parting(one, other):
    """Return a start from which the runs of two traces do not end alike, or None if there is none."""
    _must_be_like(one, other)
    for way in ways(World(one[0]), one):
        for further in ways(way.world, other):
            start = further.world.start()
            if not _end_alike(one, other, start):
                return start
    return None


def is_parting(one, other, thing):
    """Tell whether a thing is a start from which the runs of two traces do not end alike."""
    _must_be_like(one, other)
    return is_start(one[0], thing) and not _end_alike(one, other, thing)


def met_steps(trace):
    """Return the ascending list of the indexes of the steps that are come to from some start."""
    farthest = max([way.at for way in ways(World(trace[0]), trace)])
    return [index for index in range(len(trace[2])) if index <= farthest]


def start_to(trace, index):
    """Return a start from which a step is come to, or None."""
    for way in ways(World(trace[0]), trace):
        if way.at >= index:
            return way.world.start()
    return None


def word_at(trace, index):
    """Return whether a step is done where it is come to: "never" come to, "always", "left", or "open"."""
    met = [way.at for way in ways(World(trace[0]), trace) if way.at >= index]
    if not met:
        return "never"
    if index not in met:
        return "always"
    return "left" if max(met) == index else "open"


def _narrow(trace, places):
    """Return a trace with just those of its registers that have places, and at these."""
    _, kept, steps = trace
    return len(places), tuple([places[place] for place in kept]), tuple([renamed_step(step, places) for step in steps])


def _must_be_like(one, other):
    if one[:2] != other[:2]:
        raise Unlike()


def _end_alike(one, other, start):
    """Tell whether the runs of two traces from a start end alike."""
    left, told, heap, values = gone(one, start)
    second_left, second_told, second_heap, second_values = gone(other, start)
    if left != second_left or told != second_told:
        return False
    cells = [("at", number) for number in start[0].numbers()]
    ones = cells + [values[place] for place in one[1]]
    others = cells + [second_values[place] for place in one[1]]
    return matched(heap, ones, second_heap, others) is not None
