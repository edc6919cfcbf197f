"""What else is to be seen of a run: values of names, open calls, and what is thrown."""

from reachkept.acting import run_of
from reachkept.errors import Loose
from reachkept.scopes import owned


def watched(program, ticks, module, name):
    """Return the list of what is told of the values that an own name of a module gets in a run."""
    body = program.module(module)[2]
    if name not in owned((), body):
        raise Loose(module, name)
    run = run_of(program, ticks)
    return [told for home, own, told in run.given if home == module and own == name]


def deepest(program, ticks):
    """Return how many calls are open at once at most."""
    return run_of(program, ticks).most


def thrown(program, ticks):
    """Return the list of what is told of all values that are thrown in a run."""
    return run_of(program, ticks).threw
