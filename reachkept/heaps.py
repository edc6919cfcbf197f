"""Heaps: cells with fields, by numbers."""

from reachkept.errors import Gone, NoField, Wrong
from reachkept.kinds import is_at, is_integer, is_name, is_value


class Heap:
    """Cells by numbers that are never given twice; each has values by fields."""

    def __init__(self):
        self._cells = {}
        self._made = 0

    def __eq__(self, other):
        return isinstance(other, Heap) and self._cells == other._cells

    def __len__(self):
        return len(self._cells)

    def new(self, fields):
        """Make a cell with a dict from fields to values, and return its number."""
        if not _are_fields(fields):
            raise Wrong(0)
        self._must_be_there(list(fields.values()))
        number = self._made
        self._cells[number] = dict(fields)
        self._made = number + 1
        return number

    def fields(self, number):
        """Return the dict of the fields of a cell."""
        self._must_have(number)
        cell = self._cells[number]
        return {field: cell[field] for field in sorted(cell)}

    def get(self, number, field):
        """Return the value of a field of a cell."""
        if not self.has(number, field):
            raise NoField(number, field)
        return self._cells[number][field]

    def has(self, number, field):
        """Tell whether a cell has a field."""
        self._must_have(number)
        return _is_field(field) and field in self._cells[number]

    def put(self, number, field, value):
        """Give a field of a cell a value."""
        self._must_have(number)
        self._must_be_there([value])
        self._cells[number][field] = value

    def numbers(self):
        """Return the ascending list of the numbers of the cells."""
        return sorted(self._cells)

    def free(self, numbers):
        """Take cells away; values may still name them."""
        for number in numbers:
            del self._cells[number]

    def reached(self, values):
        """Return the ascending list of the cells that values lead to, also through others."""
        found = {}
        missing = []
        waiting = list(values)
        while waiting:
            value = waiting.pop()
            if is_at(value) and value[1] not in found:
                number = value[1]
                found[number] = True
                if number in self._cells:
                    waiting.extend(list(self._cells[number].values()))
                else:
                    missing.append(number)
        if missing:
            raise Gone(min(missing))
        return sorted(found)

    def named_by(self, number):
        """Return the list of the numbers of cells that the fields of a cell that is there name, in no order."""
        return [value[1] for value in self._cells[number].values() if isinstance(value, tuple)]

    def copied(self):
        """Return a Heap like this one that goes on by itself."""
        other = Heap()
        other._cells = {number: dict(self._cells[number]) for number in self._cells}
        other._made = self._made
        return other

    def _must_have(self, number):
        # A number may be anything here, also what cannot be a key, and True is not the cell 1.
        if not is_integer(number) or number not in self._cells:
            raise Gone(number)

    def _must_be_there(self, values):
        missing = [value[1] for value in values if is_at(value) and value[1] not in self._cells]
        if missing:
            raise Gone(min(missing))


def heap_of(cells):
    """Return a Heap with cells by their numbers, dicts of fields, whose next cell is behind the greatest."""
    heap = Heap()
    heap._cells = {number: dict(cells[number]) for number in sorted(cells)}
    heap._made = max([-1] + list(cells)) + 1
    return heap


def _is_field(thing):
    return is_name(thing) or is_integer(thing)


def _are_fields(thing):
    if not isinstance(thing, dict):
        return False
    if not all([is_value(value) for value in thing.values()]):
        return False
    return all([is_name(field) for field in thing]) or all([is_integer(field) for field in thing])
