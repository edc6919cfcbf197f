"""What single words write. Each returns a tuple of the thing that a text writes, or an empty one."""

from reachkept.kinds import is_name

DIGITS = "0123456789"


def integer_of(text):
    """Read an integer, in digits without needless zeros."""
    digits = text[1:] if text.startswith("-") else text
    if digits == "" or not all([sign in DIGITS for sign in digits]):
        return ()
    if digits.startswith("0") and text != "0":
        return ()
    return (int(text),)


def value_of(text):
    """Read a value."""
    if text == "nothing":
        return (None,)
    if is_name(text):
        return (text,)
    if text.startswith("@"):
        numbers = integer_of(text[1:])
        return (("at", numbers[0]),) if numbers and numbers[0] >= 0 else ()
    return integer_of(text)


def truth_of(text):
    """Read a truth."""
    if text == "yes":
        return (True,)
    return (False,) if text == "no" else ()


def lot_of(text):
    """Read words with commas between, or none of them, as a tuple."""
    return ((),) if text == "-" else (tuple(text.split(",")),)


def numbers_of(text):
    """Read integers with commas between, or none of them, as a tuple."""
    if text == "-":
        return ((),)
    return whole([integer_of(part) for part in text.split(",")])


def whole(parts):
    """Put what single words write together as a tuple, unless one of them writes nothing."""
    if not all([len(part) == 1 for part in parts]):
        return ()
    return (tuple([part[0] for part in parts]),)
