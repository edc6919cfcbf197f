"""Traces: straight steps with exits, and what becomes of a start on the way through them."""

from reachkept.heaps import Heap
from reachkept.kinds import is_at, is_integer, is_name, is_natural, is_value
from reachkept.walks import Walk

WORKS = ("add", "less", "mul", "quo", "rest", "sub")

# What stands behind the exit and the word of a step.
STEPS = {
    "keep": ("register", "plain"),
    "move": ("register", "register"),
    "work": ("register", "op", "register", "register"),
    "same": ("register", "register", "register"),
    "is": ("register", "register"),
    "cell": ("register",),
    "load": ("register", "register", "field"),
    "store": ("register", "field", "register"),
    "tell": ("register",),
    "so": ("register", "truth"),
    "alike": ("register", "register", "truth"),
    "kind": ("register", "truth"),
}


def is_trace(thing):
    """Tell whether a thing is a trace."""
    if not isinstance(thing, tuple) or len(thing) != 3:
        return False
    size, kept, steps = thing
    if not is_natural(size) or not isinstance(kept, tuple) or not isinstance(steps, tuple):
        return False
    if not all([_is_part("register", part, size) for part in kept]) or list(kept) != sorted(set(kept)):
        return False
    return all([_is_step(step, size) for step in steps])


def is_start(size, thing):
    """Tell whether a thing is a start for traces of a size, with all values at cells that are there."""
    if not isinstance(thing, tuple) or len(thing) != 3:
        return False
    heap, values, meaning = thing
    if not isinstance(heap, Heap) or not isinstance(values, list) or not isinstance(meaning, dict):
        return False
    numbers = heap.numbers()
    held = list(values)
    for number in numbers:
        fields = heap.fields(number)
        if not all([is_name(field) for field in fields]):
            return False
        held.extend(list(fields.values()))
    if not all([is_value(value) and (not is_at(value) or value[1] in numbers) for value in held]):
        return False
    return len(values) == size and all([_is_key(key) and _is_plain(meaning[key]) for key in meaning])


def gone(trace, start):
    """Return a tuple (exit, told, heap, values) of what becomes of a start on the way through a trace."""
    heap, values, meaning = start
    walk = Walk(heap.copied(), list(values), meaning)
    left = walk.through(trace[2])
    return left, walk.said, walk.cells, walk.worths


def registers_of(step):
    """Return the list of the registers of a step."""
    return [part for form, part in zip(STEPS[step[1]], step[2:]) if form == "register"]


def renamed_step(step, places):
    """Return a step with other registers in the place of its own ones, a list or dict telling which."""
    rest = [places[part] if form == "register" else part for form, part in zip(STEPS[step[1]], step[2:])]
    return step[:2] + tuple(rest)


def _is_step(thing, size):
    if not isinstance(thing, tuple) or len(thing) < 2 or not is_natural(thing[0]) or not isinstance(thing[1], str):
        return False
    forms = STEPS.get(thing[1])
    if forms is None or len(thing) != 2 + len(forms):
        return False
    return all([_is_part(form, part, size) for form, part in zip(forms, thing[2:])])


def _is_part(form, thing, size):
    if form == "register":
        return is_natural(thing) and thing < size
    if form == "op":
        return isinstance(thing, str) and thing in WORKS
    if form == "field":
        return is_name(thing)
    if form == "truth":
        return isinstance(thing, bool)
    return _is_plain(thing)


def _is_plain(thing):
    """Tell whether a thing is a value that is no cell."""
    return thing is None or is_integer(thing) or is_name(thing)


def _is_key(thing):
    if not isinstance(thing, tuple) or len(thing) != 3:
        return False
    op, one, other = thing
    return _is_part("op", op, 0) and _is_plain(one) and _is_plain(other)
