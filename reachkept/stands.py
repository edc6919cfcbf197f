"""Stands: cells, roots and a plan, with what a collector has marked; and what cells lead to."""

from heapq import heappop, heappush

from reachkept.kinds import is_at, is_integer, is_name, is_value

SHADES = ("black", "grey", "white")


class Stand:
    """A Heap, roots in it and a plan; while it is marking, each cell has a shade.

    The Heap is the very one that is handed in. Unscanned has for each grey cell a dict from its open
    fields to True; queue has all grey cells, for the sake of the least one, and others that were grey.
    """

    def __init__(self, cells, roots, rules):
        self.cells = cells
        self.roots = roots
        self.rules = rules
        self.marking = False
        self.shades = {}
        self.unscanned = {}
        self.queue = []

    def copied_on(self, cells):
        """Return a Stand like this one that goes on by itself, on a copy of its cells."""
        other = Stand(cells, self.roots, self.rules)
        other.marking = self.marking
        other.shades = dict(self.shades)
        other.unscanned = {number: dict(self.unscanned[number]) for number in self.unscanned}
        other.queue = list(self.queue)
        return other

    def grey_cells(self):
        """Return the ascending list of the grey cells."""
        return sorted(self.unscanned)

    def least_grey_cell(self):
        """Return the least grey cell, where there is one."""
        while self.queue[0] not in self.unscanned:
            heappop(self.queue)
        return self.queue[0]

    def begin(self):
        """Begin marking."""
        self.marking = True
        self.shades = {number: "white" for number in self.cells.numbers()}
        if self.rules[1] == "kept":
            for root in self.roots:
                self._shade(root)
            return
        for root in self.roots:
            self.shades[root] = "black"
        self._shade_held_by_roots()

    def scan_field(self, number, field):
        """Scan an open field of a grey cell."""
        del self.unscanned[number][field]
        self._shade_value(self.cells.get(number, field))

    def scan_cell(self, number):
        """Make a grey cell black, all of whose fields are scanned, or are scanned now."""
        if self.rules[0] == "whole":
            self._shade_held(number)
        self._blacken(number)

    def grow(self):
        """Make a new cell without fields and return its number."""
        number = self.cells.new({})
        self.meet(number)
        return number

    def meet(self, number):
        """Do what the plan tells of a new cell."""
        if self.marking:
            self.shades[number] = self.rules[2]
            if self.rules[2] == "grey":
                self._make_grey(number)

    def put(self, number, field, value):
        """Give a field of a cell a value, and do what the plan tells of this."""
        before = (self.cells.get(number, field),) if self.cells.has(number, field) else ()
        self.cells.put(number, field, value)
        self.mind(number, field, before, value)

    def mind(self, number, field, before, value):
        """Do what the plan tells of a put into a field with a tuple of the value that it had, if there was one.

        More fields may have been put by now, for which this is called later: where a cell becomes grey,
        they are open ahead of time, and are so in the end all the same.
        """
        if not self.marking:
            return
        lot = self._lot(number)
        if "old" in lot and before:
            self._shade_value(before[0])
        if "new" in lot:
            self._shade_value(value)
        if "back" in lot and is_at(value):
            self._make_grey(number)
        if number in self.unscanned and not before:
            self.unscanned[number][field] = True

    def finish(self):
        """End marking, and return the list of the cells that were freed and the list of those lost."""
        if self.rules[1] == "again":
            self._shade_held_by_roots()
            while self.unscanned:
                for number in self.grey_cells():
                    self._shade_held(number)
                    self._blacken(number)
        freed = [number for number in sorted(self.shades) if self.shades[number] == "white"]
        # Nothing can be lost where nothing is freed, and what is reached need not be looked for.
        kept = reached_from(self.cells, self.roots) if freed else {}
        self.cells.free(freed)
        self.marking = False
        self.shades = {}
        self.queue = []
        return freed, [number for number in freed if number in kept]

    def _lot(self, number):
        """Return what is done at a put into a cell."""
        if self.rules[1] != "kept" and number in self.roots:
            return ()
        return self.rules[3 + SHADES.index(self.shades[number])]

    def _make_grey(self, number):
        self.shades[number] = "grey"
        self.unscanned[number] = {field: True for field in self.cells.fields(number)}
        heappush(self.queue, number)

    def _blacken(self, number):
        self.shades[number] = "black"
        del self.unscanned[number]

    def _shade(self, number):
        if self.shades.get(number) == "white":
            self._make_grey(number)

    def _shade_value(self, value):
        if is_at(value):
            self._shade(value[1])

    def _shade_held(self, number):
        for other in self.cells.named_by(number):
            self._shade(other)

    def _shade_held_by_roots(self):
        for root in self.roots:
            self._shade_held(root)


def reached_from(cells, numbers):
    """Return the dict from the cells that are among numbers, or to which these lead, to True.

    Values may name cells that are gone, which lead nowhere.
    """
    there = {number: True for number in cells.numbers()}
    found = {}
    waiting = list(numbers)
    while waiting:
        number = waiting.pop()
        if number in there and number not in found:
            found[number] = True
            waiting.extend(cells.named_by(number))
    return found


def may_put(cells, kept, number, field):
    """Tell whether a field of a cell among the kept ones, of any values, may be given a value."""
    if not is_integer(number) or number not in kept:
        return False
    if not is_integer(field) and not is_name(field):
        return False
    return all([is_integer(field) == is_integer(other) for other in cells.fields(number)])


def may_hold(kept, value):
    """Tell whether any value is one that a field may be given, at one of the kept cells if it is at one."""
    return is_value(value) and (not is_at(value) or value[1] in kept)


def is_lost_by(course, thing):
    """Tell whether a thing is a list of steps of a Course or Nursery, behind the last of which a cell is lost.

    The steps are done.
    """
    if not isinstance(thing, list):
        return False
    for step in thing:
        if not course.can(step):
            return False
        course.do(step)
    return len(course.lost()) > 0
