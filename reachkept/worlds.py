"""Worlds: what is supposed of a start, as far as traces have asked for it."""

from reachkept.heaps import Heap


class World:
    """What is supposed of the starts for traces of a size.

    It speaks of unknowns, which have numbers: first what the registers have, then what stands in
    fields of the start, what works give, plain values, and new cells. Those that are supposed to be
    the same have one leader, an unknown among them, by which all else is kept: sorts tells whether it
    is a "cell", a "new" one, or "plain"; constants what plain value it is; unlike the pairs that are
    different; held and meaning the unknown in a field, or given by a work, or None if there is none.

    Questions are tuples: ("cell", one), whether an unknown is a cell; ("alike", one, other), whether
    two are the same; ("field", one, field), whether a cell has a field at the start; and ("work", op,
    one, other), whether a work of two that are no cells has a meaning.
    """

    def __init__(self, size):
        self.size = size
        self.leaders = list(range(size))
        self.sorts = {}
        self.constants = {}
        self.unlike = {}
        self.held = {}
        self.meaning = {}

    def copied(self):
        """Return a World like this one that goes on by itself."""
        other = World(self.size)
        other.leaders = list(self.leaders)
        other.sorts = {one: self.sorts[one] for one in self.sorts}
        other.constants = {one: self.constants[one] for one in self.constants}
        other.unlike = {pair: True for pair in self.unlike}
        other.held = {key: self.held[key] for key in self.held}
        other.meaning = {key: self.meaning[key] for key in self.meaning}
        return other

    def unknown(self):
        """Return a new unknown."""
        self.leaders.append(len(self.leaders))
        return len(self.leaders) - 1

    def new_cell(self):
        """Return a new unknown for a cell that is not there at the start."""
        one = self.unknown()
        self.sorts[one] = "new"
        return one

    def plain(self, value):
        """Return the unknown that is a plain value."""
        for one in self.constants:
            if self.constants[one] == value:
                return one
        one = self.unknown()
        self.sorts[one] = "plain"
        self.constants[one] = value
        return one

    def answer(self, question):
        """Return whether a question is so, or None if nothing is supposed of it."""
        if question[0] == "cell":
            sort = self.sorts.get(self.leaders[question[1]])
            return None if sort is None else sort != "plain"
        if question[0] == "alike":
            return self._are_alike(self.leaders[question[1]], self.leaders[question[2]])
        if question[0] == "field" and self.sorts[self.leaders[question[1]]] == "new":
            return False
        key = self._key(question)
        known = self._known(question)
        return known[key] is not None if key in known else None

    def result(self, question):
        """Return the unknown in a field that is there, or given by a work that has a meaning."""
        return self._known(question)[self._key(question)]

    def suppose(self, question, truth):
        """Suppose that a question of which nothing is supposed is so or not; tell whether this may be."""
        if question[0] == "cell":
            self.sorts[self.leaders[question[1]]] = "cell" if truth else "plain"
            return True
        if question[0] == "alike":
            one, other = self.leaders[question[1]], self.leaders[question[2]]
            if truth:
                return self._join(one, other)
            self.unlike[_pair(one, other)] = True
            return True
        one = self.unknown() if truth else None
        if truth and question[0] == "work":
            self.sorts[one] = "plain"
        known = self._known(question)
        known[self._key(question)] = one
        return True

    def start(self):
        """Return a start of which all this is so, in which all else is different, lacks, or has no meaning."""
        heap, shown = self._shown()
        for leader, field in self.held:
            if self.held[(leader, field)] is not None:
                heap.put(shown[leader][1], field, shown[self.leaders[self.held[(leader, field)]]])
        meaning = {}
        for op, one, other in self.meaning:
            result = self.meaning[(op, one, other)]
            if result is not None:
                meaning[(op, shown[one], shown[other])] = shown[self.leaders[result]]
        return heap, [shown[self.leaders[one]] for one in range(self.size)], meaning

    def _shown(self):
        """Return a Heap with the cells of the start, and a dict from leaders to different values."""
        heap = Heap()
        shown = {one: self.constants[one] for one in self.constants}
        taken = list(self.constants.values())
        number = 2
        for one in sorted(set(self.leaders)):
            if self.sorts.get(one) == "cell":
                shown[one] = ("at", heap.new({}))
            elif one not in shown:
                while number in taken:
                    number += 1
                shown[one] = number
                number += 1
        return heap, shown

    def _known(self, question):
        return self.held if question[0] == "field" else self.meaning

    def _key(self, question):
        if question[0] == "field":
            return self.leaders[question[1]], question[2]
        return question[1], self.leaders[question[2]], self.leaders[question[3]]

    def _are_alike(self, one, other):
        if one == other:
            return True
        if one in self.constants and other in self.constants or _pair(one, other) in self.unlike:
            return False
        sort, second = self.sorts.get(one), self.sorts.get(other)
        if sort == "new" or second == "new":
            return False
        return None if sort is None or second is None or sort == second else False

    def _join(self, one, other):
        """Suppose that two are the same, with all that follows; tell whether this may be."""
        waiting = [(one, other)]
        while waiting:
            one, other = waiting.pop()
            one, other = self.leaders[one], self.leaders[other]
            if self._are_alike(one, other) is False:
                return False
            if one != other:
                if other in self.constants:
                    one, other = other, one
                if other in self.sorts:
                    self.sorts[one] = self.sorts[other]
                self.leaders = [one if leader == other else leader for leader in self.leaders]
                pairs = self._led_anew()
                if pairs is None:
                    return False
                waiting.extend(pairs)
        return True

    def _led_anew(self):
        """Keep all by the present leaders; return the list of the pairs that must be the same then, or None."""
        self.unlike = {_pair(self.leaders[one], self.leaders[other]): True for one, other in self.unlike}
        pairs = []
        by_field = {}
        for leader, field in self.held:
            if not _laid(by_field, (self.leaders[leader], field), self.held[(leader, field)], pairs):
                return None
        by_work = {}
        for op, one, other in self.meaning:
            key = (op, self.leaders[one], self.leaders[other])
            if not _laid(by_work, key, self.meaning[(op, one, other)], pairs):
                return None
        self.held = by_field
        self.meaning = by_work
        return pairs


def _pair(one, other):
    return min(one, other), max(one, other)


def _laid(known, key, one, pairs):
    """Lay an unknown, or None, down by a key; add the pair of it and what lies there; tell whether this may be."""
    if key not in known:
        known[key] = one
        return True
    other = known[key]
    if one is not None and other is not None:
        pairs.append((one, other))
    return (one is None) == (other is None)
