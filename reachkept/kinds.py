"""What integers, names and the values of heaps are."""

RESERVED = (
    "add", "back", "call", "cell", "do", "field", "function", "generator", "if", "import", "integer",
    "is", "less", "let", "make", "maker", "module", "mul", "next", "nothing", "put", "quo", "rest",
    "same", "store", "sub", "tell", "throw", "try", "while", "word", "yield",
)


def is_integer(thing):
    """Tell whether a thing is an integer; truths are none."""
    return isinstance(thing, int) and not isinstance(thing, bool)


def is_natural(thing):
    """Tell whether a thing is an integer from 0 on."""
    return is_integer(thing) and thing >= 0


def is_name(thing):
    """Tell whether a thing is a name."""
    if not isinstance(thing, str) or not 1 <= len(thing) <= 8:
        return False
    return thing not in RESERVED and all(["a" <= sign <= "z" for sign in thing])


def is_at(thing):
    """Tell whether a thing names a cell of a heap."""
    return isinstance(thing, tuple) and len(thing) == 2 and thing[0] == "at" and is_natural(thing[1])


def is_value(thing):
    """Tell whether a thing is a value as heaps keep it."""
    return thing is None or is_integer(thing) or is_name(thing) or is_at(thing)
