"""Traces made shorter, and what may stand in the place of their steps."""

from reachkept.judging import do_same


def without(trace, index):
    """Return a trace without a step."""
    size, kept, steps = trace
    return size, kept, steps[:index] + steps[index + 1:]


def with_step(trace, index, step):
    """Return a trace with another step in the place of one."""
    size, kept, steps = trace
    return size, kept, steps[:index] + (step,) + steps[index + 1:]


def swapped(trace, index):
    """Return a trace with a step and the next one exchanged."""
    size, kept, steps = trace
    return size, kept, steps[:index] + (steps[index + 1], steps[index]) + steps[index + 2:]


def may_drop(trace, index):
    """Tell whether a trace does the same without a step."""
    return do_same(trace, without(trace, index))


def may_put(trace, index, step):
    """Tell whether a trace does the same with another step in the place of one."""
    return do_same(trace, with_step(trace, index, step))


def may_swap(trace, index):
    """Tell whether a trace does the same with a step and the next one exchanged."""
    return do_same(trace, swapped(trace, index))


def idle_steps(trace):
    """Return the ascending list of the indexes of the steps that may be dropped, each by itself."""
    return [index for index in range(len(trace[2])) if may_drop(trace, index)]


def lean(trace):
    """Return a trace that does the same and has no idle step, made by dropping steps."""
    shorter = trace
    index = 0
    while index < len(shorter[2]):
        if may_drop(shorter, index):
            shorter = without(shorter, index)
            # What stands ahead may be idle only now.
            index = 0
        else:
            index += 1
    return shorter


def copies(trace, index):
    """Return the ascending list of the other registers of which a step may be a move into its own one."""
    leave, _, target = trace[2][index][:3]
    others = [place for place in range(trace[0]) if place != target]
    return [place for place in others if may_put(trace, index, (leave, "move", target, place))]


def constants(trace, index):
    """Return the ascending list of the tuples (value,) of values that a step may keep in its register."""
    leave, _, target = trace[2][index][:3]
    found = [value for value in _kept_values(trace) if may_put(trace, index, (leave, "keep", target, value))]
    return [(value,) for value in found]


def _kept_values(trace):
    """Return the list of the values that a trace keeps, and 0 and 1, each once: integers, names, None."""
    values = [step[3] for step in trace[2] if step[1] == "keep"]
    numbers = sorted(set([0, 1] + [value for value in values if isinstance(value, int)]))
    names = sorted({value for value in values if isinstance(value, str)})
    return numbers + names + ([None] if None in values else [])
