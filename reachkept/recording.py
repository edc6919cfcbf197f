"""The ways from turns back to them, and their traces."""

from reachkept.errors import NoTrace
from reachkept.judging import do_same
from reachkept.shortening import lean
from reachkept.works import is_so

# The words of the ops that are steps as they are.
PLAIN = ("keep", "move", "cell", "load", "store", "tell")


def trace_at(codes, code, op, truths):
    """Return the trace of the way from behind a turn back to it, its unlesses going by truths."""
    steps = way_steps(codes, code, op, truths)
    if steps is None:
        raise NoTrace()
    size = codes[0][code][1]
    return size, tuple(range(size)), steps


def truths_of(machine):
    """Return the list of the truths by which a Machine at a turn goes on until it is there again."""
    truths = truths_ahead(machine)
    if truths is None:
        raise NoTrace()
    return truths


def fits(codes, code, op, truths, trace):
    """Tell whether a trace may stand for the way from a turn back to it."""
    steps = way_steps(codes, code, op, truths)
    if steps is None:
        return False
    size, kept, _ = trace
    many = codes[0][code][1]
    return kept == tuple(range(many)) and size >= many and do_same((size, kept, steps), trace)


def way_lean(codes, code, op, truths):
    """Return the lean trace of the way from a turn back to it."""
    return lean(trace_at(codes, code, op, truths))


def way_steps(codes, code, op, truths):
    """Return the tuple of the steps of the way from behind a turn back to it, or None if it has no trace."""
    if not is_turn(codes, code, op):
        return None
    ops = codes[0][code][4]
    steps = []
    seen = {}
    used = 0
    at = op + 1
    while at != op:
        if at in seen or at >= len(ops) or ops[at][0] == "unless" and used == len(truths):
            return None
        seen[at] = True
        if ops[at][0] == "jump":
            at = ops[at][1]
        elif ops[at][0] == "unless":
            steps.append((at, "so", ops[at][1], truths[used]))
            at = at + 1 if truths[used] else ops[at][2]
            used += 1
        elif is_straight(ops[at]):
            steps.append(_step_of(at, ops[at]))
            at = at + 1
        else:
            return None
    return tuple(steps) if used == len(truths) else None


def truths_ahead(machine):
    """Return the list of the truths by which a Machine goes on from a turn back to it, or None."""
    begin = machine.coming()
    if begin is None:
        return None
    frame, code, op = begin
    codes = machine.engine.guide.codes
    if not is_turn(codes, code, op):
        return None
    other = machine.copied()
    truths = []
    seen = {}
    other.step()
    place = other.coming()
    while place != begin:
        if place is None or place[0] != frame or place in seen:
            return None
        seen[place] = True
        one = codes[0][code][4][place[2]]
        if one[0] == "unless":
            truths.append(is_so(other.engine.cells.get(frame, one[1])))
        elif one[0] != "jump" and not is_straight(one):
            return None
        other.step()
        place = other.coming()
    return truths


def is_turn(codes, code, op):
    """Tell whether there is a turn at an op of codes."""
    if not 0 <= code < len(codes[0]) or not 0 <= op < len(codes[0][code][4]):
        return False
    return codes[0][code][4][op] == ("turn",)


def is_straight(op):
    """Tell whether an op, no jump and no unless, has a step of traces."""
    return op[0] in PLAIN or op[0] == "work" or op[0] == "is" and op[2] == "cell"


def _step_of(at, op):
    """Return the step of a straight op."""
    if op[0] == "work" and op[2] == "same":
        return at, "same", op[1], op[3], op[4]
    if op[0] == "is":
        return at, "is", op[1], op[3]
    return (at,) + op
