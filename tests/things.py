"""Values of many sorts, for what takes any value, and short names for what programs are made of."""

from reachkept.errors import Gone, ReachError
from reachkept.heaps import Heap

STRANGE = [
    None, True, False, 0, 1, -1, 10 ** 39, -(10 ** 39), "", "a", "A", "a b", "\n", "let", "abcdefghi", " ~",
    (), [], {}, (()), ((),), [[]], ["at", 0], ("at",), ("at", -1), ("at", True), ("at", 0, 0), {"at": 0},
    ([],), ({},), ({"a": []},), (None,), ("nothing", None), [("nothing",)], (("nothing",),),
    Heap(), ReachError(), Gone(3), (Heap(),), [Heap()], {"a": Heap()}, (ReachError(), 1), ([], [], []), ({}, (), ()),
    ((), [], ()), ((), (), []), (True,), (1, 2), ("integer", Heap()), (Heap(), 1), ([1], 2),
]


def integer(number):
    return ("integer", number)


def word(name):
    return ("word", name)


def name(own):
    return ("name", own)


def work(op, one, other):
    return ("work", op, one, other)


def call(one, *others):
    return ("call", one, tuple(others))


def cell(**rows):
    return ("cell", tuple((field, rows[field]) for field in rows))


NOTHING = ("nothing",)


def deep(parts):
    """An expression that is so many parts deep."""
    one = NOTHING
    for _ in range(parts):
        one = ("next", one)
    return one


def changed(thing):
    """All that a tuple becomes by one part of it, at any depth, exchanged, left out or put twice."""
    found = []
    if not isinstance(thing, tuple):
        return found
    found.append(list(thing))
    found.append(thing + (None,))
    for index in range(len(thing)):
        front, part, rest = thing[:index], thing[index], thing[index + 1:]
        found.append(front + rest)
        found.append(front + (part, part) + rest)
        for strange in STRANGE:
            found.append(front + (strange,) + rest)
        for inner in changed(part):
            found.append(front + (inner,) + rest)
    return found
