"""Plans: what a collector shades at puts, and at roots, and how new cells are coloured."""

WORDS = ("back", "new", "old")
LOTS = (
    (), ("back",), ("back", "new"), ("back", "new", "old"), ("back", "old"), ("new",), ("new", "old"), ("old",),
)
SCANS = ("fields", "whole")
ROOTS = ("again", "kept", "once")
COLOURS = ("black", "grey", "white")


def is_plan(thing):
    """Tell whether a thing is a plan."""
    if not isinstance(thing, tuple) or len(thing) != 6:
        return False
    scan, roots, fresh, black, grey, white = thing
    if not _is_word(scan, SCANS) or not _is_word(roots, ROOTS) or not _is_word(fresh, COLOURS):
        return False
    return _is_lot(black) and _is_lot(grey) and _is_lot(white)


def is_less(one, other):
    """Tell whether two plans are alike but for lots, and each lot of the first lies within that of the other."""
    if one[:3] != other[:3]:
        return False
    return all([word in lot for inner, lot in zip(one[3:], other[3:]) for word in inner])


def plans(scan, roots, fresh):
    """Return the ascending list of all plans with such a scan, roots and fresh."""
    return [(scan, roots, fresh, black, grey, white) for black in LOTS for grey in LOTS for white in LOTS]


def _is_word(thing, words):
    return isinstance(thing, str) and thing in words


def _is_lot(thing):
    if not isinstance(thing, tuple) or not all([_is_word(part, WORDS) for part in thing]):
        return False
    return list(thing) == sorted(set(thing))
