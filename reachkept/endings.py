"""How runs end, and what they tell, by its form."""

from reachkept.kinds import is_integer, is_name

TOLD_WORDS = ("nothing", "cell", "function", "generator")


def is_told(thing):
    """Tell whether a thing is what may be told of a value."""
    return is_integer(thing) or is_name(thing) or isinstance(thing, str) and thing in TOLD_WORDS


def are_told(thing):
    """Tell whether a thing is a tuple of what may be told of values."""
    return isinstance(thing, tuple) and all([is_told(part) for part in thing])


def is_ending(thing):
    """Tell whether a thing is how a run of a program may end."""
    if isinstance(thing, tuple) and len(thing) == 2:
        return thing[0] == "thrown" and is_told(thing[1])
    return thing == ("done",) or thing == ("ticks",)
