"""Traces put together, with other registers, and with fewer that are kept."""

from reachkept.judging import do_same

# Where the registers stand in a step, behind its exit and its word.
REGISTERS = {
    "keep": (2,),
    "move": (2, 3),
    "work": (2, 4, 5),
    "same": (2, 3, 4),
    "is": (2, 3),
    "cell": (2,),
    "load": (2, 3),
    "store": (2, 4),
    "tell": (2,),
    "so": (2,),
    "alike": (2, 3),
    "kind": (2,),
}


def joined(one, other):
    """Return the trace with the steps of two, of the same size and kept, one behind the other."""
    size, kept, steps = one
    return size, kept, steps + other[2]


def renamed(trace, registers):
    """Return a trace with different registers in the place of its own ones."""
    size, kept, steps = trace
    size = max([size] + [place + 1 for place in registers])
    kept = tuple(sorted([registers[place] for place in kept]))
    return size, kept, tuple([_renamed_step(step, registers) for step in steps])


def narrowed(trace, kept):
    """Return the trace that keeps just these registers of those that it keeps."""
    size, elder, steps = trace
    return size, tuple([place for place in elder if place in kept]), steps


def parted_by(one, other, kept):
    """Return the ascending list of the registers of kept by which alone two traces do not do the same."""
    registers = sorted(set(kept))
    return [place for place in registers if not do_same(narrowed(one, (place,)), narrowed(other, (place,)))]


def _renamed_step(step, registers):
    places = REGISTERS[step[1]]
    return tuple([registers[part] if at in places else part for at, part in enumerate(step)])
