"""Courses: steps of a collector among steps of a program, on a heap with roots and a plan."""

from reachkept.errors import NoStep, Stopped
from reachkept.kinds import is_integer, is_name
from reachkept.stands import Stand, may_hold, may_put, reached_from


class Course:
    """A copy of a Heap with roots and a plan, on which steps are done."""

    def __init__(self, heap, roots, plan):
        self._stand = Stand(heap.copied(), tuple(roots), plan)
        self._lacking = []
        self._trail = []

    def do(self, step):
        """Do a step."""
        if not self.can(step):
            raise NoStep()
        if step[0] == "begin":
            self._stand.begin()
        elif step[0] == "end":
            _, self._lacking = self._stand.finish()
        elif step[0] == "scan" and len(step) == 3:
            self._stand.scan_field(step[1], step[2])
        elif step[0] == "scan":
            self._stand.scan_cell(step[1])
        elif step[0] == "put":
            self._stand.put(step[1], step[2], step[3])
        else:
            self._stand.put(step[1], step[2], ("at", self._stand.grow()))
        self._trail.append(step)

    def can(self, step):
        """Tell whether any value is a step that can be done."""
        if self._lacking or not isinstance(step, tuple) or len(step) == 0:
            return False
        if step == ("begin",):
            return not self._stand.marking
        if step == ("end",):
            return self._stand.marking and not self._stand.unscanned
        if step[0] == "scan" and len(step) in (2, 3):
            return self._can_scan(step)
        if step[0] == "put" and len(step) == 4 or step[0] == "fresh" and len(step) == 3:
            return self._can_put(step)
        return False

    def heap(self):
        """Return a copy of the Heap."""
        return self._stand.cells.copied()

    def colours(self):
        """Return the dict from the cells to their colours, or an empty one when it is idle."""
        return {number: self._stand.shades[number] for number in sorted(self._stand.shades)}

    def open_fields(self, number):
        """Return the ascending list of the open fields of a grey cell; of any other number an empty one."""
        if not is_integer(number):
            return []
        return sorted(self._stand.unscanned.get(number, {}))

    def lost(self):
        """Return the list of the lost cells."""
        return list(self._lacking)

    def steps(self):
        """Return the list of the steps done."""
        return list(self._trail)

    def copied(self):
        """Return a Course in the same state."""
        other = Course(self._stand.cells, self._stand.roots, self._stand.rules)
        other._stand = self._stand.copied_on(self._stand.cells.copied())
        other._lacking = list(self._lacking)
        other._trail = list(self._trail)
        return other

    def _can_scan(self, step):
        number = step[1]
        if not is_integer(number) or number not in self._stand.unscanned:
            return False
        by_fields = self._stand.rules[0] == "fields"
        if len(step) == 2:
            return not by_fields or not self._stand.unscanned[number]
        field = step[2]
        if not is_integer(field) and not is_name(field):
            return False
        return by_fields and field in self._stand.unscanned[number]

    def _can_put(self, step):
        kept = reached_from(self._stand.cells, self._stand.roots)
        if not may_put(self._stand.cells, kept, step[1], step[2]):
            return False
        return step[0] == "fresh" or may_hold(kept, step[3])


def played(heap, roots, plan, steps):
    """Return the Course behind steps, a list of any values."""
    course = Course(heap, roots, plan)
    for index, step in enumerate(steps):
        if not course.can(step):
            raise Stopped(index)
        course.do(step)
    return course


def next_steps(course):
    """Return the ascending list of the steps but puts and fresh ones that can be done."""
    found = [("begin",), ("end",)]
    for number in course.colours():
        found.append(("scan", number))
        found.extend([("scan", number, field) for field in course.open_fields(number)])
    return sorted([step for step in found if course.can(step)])


def collected(heap, roots, plan):
    """Return the ascending list of the cells that are freed in a course without a put."""
    kept = reached_from(heap, roots)
    return [number for number in heap.numbers() if number not in kept]
