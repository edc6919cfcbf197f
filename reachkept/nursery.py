"""Nurseries: heaps whose young cells are freed by themselves, by what old cells are remembered."""

from reachkept.errors import NoStep
from reachkept.heaps import Heap
from reachkept.kinds import is_at, is_integer
from reachkept.stands import is_lost_by, may_hold, may_put, reached_from


class Nursery:
    """A copy of a Heap with roots and a young plan, whose first cells are old, on which steps are done."""

    def __init__(self, heap, roots, plan):
        self._cells = heap.copied()
        self._roots = tuple(roots)
        self._rules = plan
        self._young = {}
        self._noted = {}
        self._lacking = []
        self._trail = []

    def do(self, step):
        """Do a step."""
        if not self.can(step):
            raise NoStep()
        if step[0] == "small":
            self._small()
        elif step[0] == "put":
            self._put(step[1], step[2], step[3])
        else:
            number = self._cells.new({})
            self._young[number] = 0
            self._put(step[1], step[2], ("at", number))
        self._trail.append(step)

    def heap(self):
        """Return a copy of the Heap."""
        return self._cells.copied()

    def ages(self):
        """Return the dict from the young cells to their ages."""
        return {number: self._young[number] for number in sorted(self._young)}

    def remembered(self):
        """Return the ascending list of the remembered cells."""
        return sorted(self._noted)

    def lost(self):
        """Return the list of the lost cells."""
        return list(self._lacking)

    def steps(self):
        """Return the list of the steps done."""
        return list(self._trail)

    def copied(self):
        """Return a Nursery in the same state."""
        other = Nursery(self._cells, self._roots, self._rules)
        other._young = dict(self._young)
        other._noted = dict(self._noted)
        other._lacking = list(self._lacking)
        other._trail = list(self._trail)
        return other

    def can(self, step):
        """Tell whether any value is a step that can be done."""
        if self._lacking or not isinstance(step, tuple) or len(step) == 0:
            return False
        if step == ("small",):
            return True
        is_put = step[0] == "put" and len(step) == 4
        if not is_put and (step[0] != "fresh" or len(step) != 3):
            return False
        kept = reached_from(self._cells, self._roots)
        if not may_put(self._cells, kept, step[1], step[2]):
            return False
        return not is_put or may_hold(kept, step[3])

    def _put(self, number, field, value):
        self._cells.put(number, field, value)
        if self._rules[1] and number not in self._young and is_at(value) and value[1] in self._young:
            self._noted[number] = True

    def _small(self):
        age, _, grown, kept = self._rules
        met = self._met()
        freed = [number for number in sorted(self._young) if number not in met]
        reached = reached_from(self._cells, self._roots)
        self._lacking = [number for number in freed if number in reached]
        self._cells.free(freed)
        older = [number for number in met if self._young[number] + 1 == age]
        self._young = {number: self._young[number] + 1 for number in met if number not in older}
        self._noted = {number: True for number in self._noted if kept and self._holds_young(number)}
        for number in older:
            if grown and self._holds_young(number):
                self._noted[number] = True

    def _met(self):
        """Return the dict from the young cells that roots and remembered ones lead to, through young ones."""
        found = {}
        waiting = list(self._roots) + list(self._noted)
        while waiting:
            here = waiting.pop()
            for number in self._young_in(here):
                if number not in found:
                    found[number] = True
                    waiting.append(number)
        return found

    def _young_in(self, number):
        """Return the list of the young cells that a cell holds."""
        values = list(self._cells.fields(number).values())
        return [value[1] for value in values if is_at(value) and value[1] in self._young]

    def _holds_young(self, number):
        return len(self._young_in(number)) > 0


def is_young_plan(thing):
    """Tell whether a thing is a young plan."""
    if not isinstance(thing, tuple) or len(thing) != 4:
        return False
    if not is_integer(thing[0]) or not 1 <= thing[0] <= 3:
        return False
    return all([isinstance(part, bool) for part in thing[1:]])


def keeps_young(plan):
    """Tell whether a young plan loses no cell, in no heap and along no steps.

    An old cell that holds a young one must be remembered. It comes to hold one by a put, or, if cells
    stay young for longer than until the next small step, by growing old itself, or by being kept on.
    """
    age, puts, grown, kept = plan
    return puts and (age == 1 or grown and kept)


def young_loss(plan):
    """Return a tuple (heap, roots, steps) by which a young plan loses a cell, or None if it keeps."""
    if keeps_young(plan):
        return None
    age, puts, _, kept = plan
    heap = Heap()
    heap.new({})
    if not puts or not kept:
        heap.new({})
        heap.put(0, "a", ("at", 1))
        # The new cell is held by an old one that is not remembered, or just for one small step.
        steps = [("fresh", 1, "x")] + [("small",)] * (2 if puts else 1)
    else:
        # The cell 1 grows old in the step in which the cell 2, which it holds, does not.
        steps = [("fresh", 0, "x")] + [("small",)] * (age - 1) + [("fresh", 1, "x"), ("small",), ("small",)]
    return heap, (0,), steps


def is_young_loss(plan, heap, roots, thing):
    """Tell whether a thing is a list of steps from a Heap on, behind the last of which a cell is lost."""
    return is_lost_by(Nursery(heap, roots, plan), thing)
