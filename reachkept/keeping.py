"""Which plans keep all that is reached, and how others lose a cell."""

from reachkept.courses import Course
from reachkept.heaps import Heap
from reachkept.plans import is_less, plans
from reachkept.stands import is_lost_by

# The heaps in which plans lose: 0 is the root, and 3 the cell that is lost if it is there from the
# begin on; it is held by the cell 1, or by what that one holds.
NEAR = ((0, "a", ("at", 1)), (0, "b", ("at", 2)), (1, "a", 0), (1, "f", ("at", 3)))
FAR = ((0, "a", ("at", 1)), (1, "a", 0), (1, "b", ("at", 2)), (2, "f", ("at", 3)))

# How they lose there, behind the begin. ("black", number) scans a cell whole.
BY_FRESH = (
    (("fresh", 0, "x"),),
    (("black", 2), ("fresh", 2, "x")),
    (("scan", 1, "a"), ("fresh", 1, "a")),
)
BY_NEAR = (
    (("put", 0, "x", ("at", 3)), ("put", 1, "f", None)),
    (("black", 2), ("put", 2, "x", ("at", 3)), ("put", 1, "f", None)),
    (("scan", 1, "a"), ("put", 1, "a", ("at", 3)), ("put", 1, "f", None)),
)
BY_FAR = (
    (("put", 0, "x", ("at", 3)), ("put", 2, "f", None)),
    (("fresh", 0, "b"), ("black", 4), ("put", 4, "x", ("at", 3)), ("put", 2, "f", None)),
    (("scan", 1, "a"), ("put", 1, "a", ("at", 3)), ("put", 2, "f", None)),
)


def keeps(plan):
    """Tell whether a plan loses no cell, in no heap and along no course."""
    return _keeps_whites_unheld(plan) or _keeps_ways_to_whites(plan)


def hides(plan):
    """Tell whether what is scanned may come to hold a white cell while a plan is marking."""
    return not _keeps_whites_unheld(plan)


def _keeps_whites_unheld(plan):
    """Tell whether nothing that is scanned ever holds a white cell.

    Where it does not, all white cells that are reached are reached through open fields of grey cells,
    or from roots that are scanned again at the end: none of them is left then. For this, whatever
    scanned thing gets a cell must shade it, or be scanned once more. Roots that are scanned just once
    do neither.
    """
    scan, roots, _, black, grey, _ = plan
    return roots != "once" and _guards(black) and (scan == "whole" or _guards(grey))


def _guards(lot):
    return "new" in lot or "back" in lot


def _keeps_ways_to_whites(plan):
    """Tell whether a way through white cells alone, from an open field of a grey one, leads to each white cell
    that is reached.

    It does so behind the begin. It is broken by nothing but a put that takes a white cell out of a
    grey or a white one, which must shade what it takes away, and new cells that are white have none.
    """
    _, _, fresh, _, grey, white = plan
    return fresh != "white" and "old" in grey and "old" in white


def loss(plan):
    """Return a tuple (heap, roots, steps) by which a plan loses a cell, or None if it keeps."""
    for rows, ways in ((NEAR, BY_FRESH), (NEAR, BY_NEAR), (FAR, BY_FAR)):
        for way in ways:
            heap = _heap_of(rows)
            steps = _steps_of(heap, plan, way)
            if is_loss(plan, heap, (0,), steps):
                return heap, (0,), steps
    return None


def is_loss(plan, heap, roots, thing):
    """Tell whether a thing is a list of steps from a Heap on, behind the last of which a cell is lost."""
    return is_lost_by(Course(heap, roots, plan), thing)


def least_plans(scan, roots, fresh):
    """Return the ascending list of the plans that keep and than which no other one that keeps is less."""
    return _least([plan for plan in plans(scan, roots, fresh) if keeps(plan)])


def mended(plan):
    """Return the ascending list of the least ones of the plans that keep and than which a plan is less."""
    scan, roots, fresh, _, _, _ = plan
    return _least([other for other in plans(scan, roots, fresh) if keeps(other) and is_less(plan, other)])


def _least(some):
    """Return the ascending list of those of some plans than which no other one of them is less."""
    found = []
    # A plan that is less than another one has fewer words, so it comes first.
    for plan in sorted(some, key=_many_words):
        if not any([is_less(other, plan) for other in found]):
            found.append(plan)
    return sorted(found)


def _many_words(plan):
    return len(plan[3]) + len(plan[4]) + len(plan[5])


def _heap_of(rows):
    """Return a Heap of four cells with rows of a cell, a field and its value."""
    heap = Heap()
    for _ in range(4):
        heap.new({})
    for number, field, value in rows:
        heap.put(number, field, value)
    return heap


def _steps_of(heap, plan, way):
    """Return the list of the steps of a way from a Heap on that can be done, from the begin to the end."""
    course = Course(heap, (0,), plan)
    course.do(("begin",))
    if plan[1] == "kept":
        _scan_whole(course, 0)
    for step in way:
        if step[0] == "black":
            _scan_whole(course, step[1])
        elif course.can(step):
            course.do(step)
    _scan_all(course)
    course.do(("end",))
    return course.steps()


def _scan_whole(course, number):
    """Scan a cell until it is black, if it is grey."""
    if course.colours().get(number) == "grey":
        if not course.can(("scan", number)):
            for field in course.open_fields(number):
                course.do(("scan", number, field))
        course.do(("scan", number))


def _scan_all(course):
    """Scan cells until none is grey."""
    while not course.can(("end",)):
        grey = [number for number, colour in course.colours().items() if colour == "grey"]
        _scan_whole(course, grey[0])
