"""Runs of machines from their begin to their end."""

from reachkept.compiling import compiled
from reachkept.doings import do_next
from reachkept.engines import started
from reachkept.machines import Machine


def ran(program, ticks):
    """Return what a Machine of a compiled Program tells, how it ends, and how many ticks are left."""
    return ran_codes(compiled(program), ticks)


def ran_codes(codes, ticks):
    """Return what a Machine of sound codes tells, how it ends, and how many ticks are left."""
    machine = Machine(codes, ticks)
    told = machine.run()
    return told, machine.end(), machine.left()


def first_unlike(one, other, ticks):
    """Return the index of the first thing told that is unlike in the runs of two sound codes, or None."""
    ones, _, _ = ran_codes(one, ticks)
    others, _, _ = ran_codes(other, ticks)
    for index in range(max(len(ones), len(others))):
        if ones[index:index + 1] != others[index:index + 1]:
            return index
    return None


def traffic(codes, ticks):
    """Return the dict from the tuples (code, op) to how often a run of sound codes did this op."""
    engine = started(codes, ticks)
    found = {}
    while engine.ending is None:
        place = engine.where(engine.running_frame())
        many = engine.count
        do_next(engine)
        if engine.count > many:
            found[place] = found.get(place, 0) + 1
    return {place: found[place] for place in sorted(found)}
