"""Traces put together, with other registers, and with fewer that are kept."""

from reachkept.judging import do_same
from reachkept.traces import renamed_step


def joined(one, other):
    """Return the trace with the steps of two, of the same size and kept, one behind the other."""
    size, kept, steps = one
    return size, kept, steps + other[2]


def renamed(trace, registers):
    """Return a trace with different registers in the place of its own ones."""
    size, kept, steps = trace
    size = max([size] + [place + 1 for place in registers])
    kept = tuple(sorted([registers[place] for place in kept]))
    return size, kept, tuple([renamed_step(step, registers) for step in steps])


def narrowed(trace, kept):
    """Return the trace that keeps just these registers of those that it keeps."""
    size, elder, steps = trace
    return size, tuple([place for place in elder if place in kept]), steps


def parted_by(one, other, kept):
    """Return the ascending list of the registers of kept by which alone two traces do not do the same."""
    registers = sorted(set(kept))
    return [place for place in registers if not do_same(narrowed(one, (place,)), narrowed(other, (place,)))]
