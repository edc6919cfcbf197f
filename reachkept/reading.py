"""Programs run as they stand."""

from reachkept.acting import run_of


def read(program, ticks):
    """Return a tuple of the list of what a run tells, how it ends, and how many ticks are left."""
    run = run_of(program, ticks)
    return run.said, run.ending, run.ticks
