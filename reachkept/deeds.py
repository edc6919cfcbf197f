"""Deeds that make houses, and what becomes of a house by them.

How a house stands is a tuple (program, plan, schedule, claims).
"""

from reachkept.endings import are_told, is_ending
from reachkept.forms import is_module
from reachkept.keeping import loss
from reachkept.kinds import is_integer, is_name, is_natural
from reachkept.led import is_schedule
from reachkept.plans import is_plan
from reachkept.programs import Program, refusal
from reachkept.reading import read

MOST_TICKS = 2000

# What stands behind the word of a deed.
DEEDS = {
    "module": ("name", "module"),
    "drop": ("name",),
    "main": ("name",),
    "plan": ("plan",),
    "schedule": ("schedule",),
    "claim": ("ticks", "told", "ending"),
    "free": ("integer",),
}


def is_deed(thing):
    """Tell whether a thing is a deed, by its form."""
    if not isinstance(thing, tuple) or len(thing) == 0 or not isinstance(thing[0], str):
        return False
    forms = DEEDS.get(thing[0])
    if forms is None or len(thing) != 1 + len(forms):
        return False
    return all([_is_part(form, part) for form, part in zip(forms, thing[1:])])


def are_ticks(thing):
    """Tell whether a thing is a number of ticks that a claim may have."""
    return is_natural(thing) and thing <= MOST_TICKS


def outcome(state, deed):
    """Return a tuple (refusal, state) of what becomes of how a house stands by any value.

    The refusal is empty where this is a deed that can be done.
    """
    if not is_deed(deed):
        return ("NoDeed",), state
    action = DOINGS[deed[0]]
    refused, further = action(state, deed)
    return refused, (state if refused else further)


def _is_part(form, thing):
    if form == "name":
        return is_name(thing)
    if form == "module":
        return is_module(thing)
    if form == "plan":
        return is_plan(thing)
    if form == "schedule":
        return is_schedule(thing)
    if form == "ticks":
        return are_ticks(thing)
    if form == "told":
        return are_told(thing)
    if form == "ending":
        return is_ending(thing)
    return is_integer(thing)


# Each of these returns the tuple of a refusal, or an empty one, and how the house would stand.


def _module(state, deed):
    modules = _modules_of(state[0])
    modules[deed[1]] = deed[2]
    return _with_modules(state, modules, state[0].main())


def _drop(state, deed):
    modules = _modules_of(state[0])
    if deed[1] not in modules:
        return ("NoModule", deed[1]), state
    del modules[deed[1]]
    return _with_modules(state, modules, state[0].main())


def _main(state, deed):
    modules = _modules_of(state[0])
    if deed[1] not in modules:
        return ("NoModule", deed[1]), state
    return _with_modules(state, modules, deed[1])


def _plan(state, deed):
    shown = loss(deed[1])
    if shown is not None:
        return ("Losing", shown), state
    program, _, schedule, claims = state
    return (), (program, deed[1], schedule, claims)


def _schedule(state, deed):
    program, plan, _, claims = state
    return (), (program, plan, deed[1], claims)


def _claim(state, deed):
    program, plan, schedule, claims = state
    further = claims + (deed[1:],)
    return _broken(program, further, len(claims)), (program, plan, schedule, further)


def _free(state, deed):
    program, plan, schedule, claims = state
    number = deed[1]
    if not 0 <= number < len(claims):
        return ("NoNumber", number), state
    return (), (program, plan, schedule, claims[:number] + claims[number + 1:])


def _modules_of(program):
    return {name: program.module(name) for name in program.modules()}


def _with_modules(state, modules, main):
    refused = refusal(modules, main)
    if refused:
        return refused, state
    _, plan, schedule, claims = state
    program = Program(modules, main)
    return _broken(program, claims, 0), (program, plan, schedule, claims)


def _broken(program, claims, front):
    """Return the refusal of the least claim from front on that does not hold, or an empty tuple."""
    for number in range(front, len(claims)):
        ticks, told, ending = claims[number]
        found, found_ending, _ = read(program, ticks)
        if tuple(found) != told or found_ending != ending:
            return "Broken", number, tuple(found)
    return ()


DOINGS = {
    "module": _module,
    "drop": _drop,
    "main": _main,
    "plan": _plan,
    "schedule": _schedule,
    "claim": _claim,
    "free": _free,
}
