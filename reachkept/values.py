"""The values of a program that is read: integers, strings for words, None for nothing, and these classes."""


class Cell:
    """A cell with its values by fields."""

    def __init__(self, held):
        self.held = held


class Closure:
    """A function: a make or maker, its own names, and the names around it."""

    def __init__(self, make, names, scope):
        self.make = make
        self.names = names
        self.scope = scope


class Stepper:
    """A generator, with the activity that it goes on with, or None if it is over."""

    def __init__(self):
        self.activity = None
        self.running = False


def sort_of(value):
    """Return the kind of a value."""
    if value is None:
        return "nothing"
    if isinstance(value, int):
        return "integer"
    if isinstance(value, str):
        return "word"
    if isinstance(value, Cell):
        return "cell"
    return "function" if isinstance(value, Closure) else "generator"


def telling(value):
    """Return what is told of a value."""
    kind = sort_of(value)
    return value if kind in ("integer", "word") else kind
