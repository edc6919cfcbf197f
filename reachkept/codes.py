"""Whether things are ops and codes, by their form alone."""

from reachkept.kinds import is_integer, is_name, is_natural
from reachkept.shapes import KINDS, MAKES, WORKS

# What stands behind the word of an op.
OPS = {
    "keep": ("register", "plain"),
    "move": ("register", "register"),
    "outer": ("register", "hops", "register"),
    "into": ("hops", "register", "register"),
    "other": ("register", "code", "register"),
    "work": ("register", "op", "register", "register"),
    "cell": ("register",),
    "load": ("register", "register", "field"),
    "store": ("register", "field", "register"),
    "close": ("register", "code"),
    "call": ("register", "register", "registers"),
    "next": ("register", "register"),
    "is": ("register", "kind", "register"),
    "tell": ("register",),
    "jump": ("at",),
    "unless": ("register", "at"),
    "turn": (),
    "back": ("register",),
    "end": (),
    "throw": ("register",),
    "try": ("at", "register"),
    "untry": (),
    "yield": ("register",),
}


def is_op(thing):
    """Tell whether a thing is an op."""
    if not isinstance(thing, tuple) or len(thing) == 0 or not isinstance(thing[0], str):
        return False
    forms = OPS.get(thing[0])
    if forms is None or len(thing) != 1 + len(forms):
        return False
    return all([_is_part(form, part) for form, part in zip(forms, thing[1:])])


def is_codes(thing):
    """Tell whether a thing is codes: a tuple of codes and the order of the modules among them."""
    if not isinstance(thing, tuple) or len(thing) != 2:
        return False
    some, order = thing
    return _are_codes(some) and _is_order(some, order)


def _is_part(form, thing):
    if form == "plain":
        return thing is None or is_integer(thing) or is_name(thing)
    if form == "op":
        return thing in WORKS
    if form == "kind":
        return thing in KINDS
    if form == "field":
        return is_name(thing)
    if form == "registers":
        return isinstance(thing, tuple) and all([is_natural(part) for part in thing])
    if form == "hops":
        return is_natural(thing) and thing > 0
    return is_natural(thing)


def _are_codes(thing):
    return isinstance(thing, tuple) and len(thing) > 0 and all([_is_code(code) for code in thing])


def _is_code(thing):
    if not isinstance(thing, tuple) or len(thing) != 5:
        return False
    many, size, kind, outer, ops = thing
    if not is_natural(many) or not is_natural(size) or size < many:
        return False
    if not isinstance(ops, tuple) or len(ops) == 0 or not all([is_op(op) for op in ops]):
        return False
    if kind == "module":
        return many == 0 and outer is None
    return kind in MAKES and is_natural(outer)


def _is_order(some, thing):
    if not isinstance(thing, tuple) or len(thing) == 0:
        return False
    if not all([is_natural(index) and index < len(some) for index in thing]):
        return False
    return len(set(thing)) == len(thing) and all([some[index][2] == "module" for index in thing])
