"""What works give, of any values that are integers, words, nothing, or compared by ==."""

from reachkept.kinds import is_integer


def is_so(value):
    """Tell whether a value counts as so: it is neither 0 nor nothing."""
    return value is not None and value != 0


def worked(op, one, other):
    """Return a tuple (value, thrown) of what a work gives and the word that it throws; one of them is None."""
    if op == "same":
        return (1 if one == other else 0), None
    if not is_integer(one) or not is_integer(other):
        return None, "kind"
    if op == "less":
        return (1 if one < other else 0), None
    if op in ("quo", "rest"):
        return _divided(op, one, other)
    value = _joined(op, one, other)
    if abs(value) > 10 ** 30:
        return None, "great"
    return value, None


def _divided(op, one, other):
    if other == 0:
        return None, "nought"
    return (one // other if op == "quo" else one % other), None


def _joined(op, one, other):
    if op == "add":
        return one + other
    if op == "sub":
        return one - other
    return one * other
