"""Heaps that note what is changed in them."""

from reachkept.heaps import Heap


class Ledger(Heap):
    """A Heap that notes what is changed in it, until the changes are asked for.

    Changes are a tuple (fresh, rows): the list of the numbers of new cells, and the ascending list of
    tuples (number, field, before, value) of fields that have another value than ahead of them, or are
    new; before is the tuple of the value that the field had, which is empty if there was no such field.
    """

    def __init__(self):
        super().__init__()
        self._fresh = []
        self._before = {}

    def new(self, fields):
        """Make a cell with a dict from fields to values, and return its number."""
        number = super().new(fields)
        self._fresh.append(number)
        for field in fields:
            self._before[(number, field)] = ()
        return number

    def put(self, number, field, value):
        """Give a field of a cell a value."""
        if (number, field) not in self._before:
            self._before[(number, field)] = (self.get(number, field),) if self.has(number, field) else ()
        super().put(number, field, value)

    def changes(self):
        """Return the changes since they were asked for the last time."""
        fresh = self._fresh
        rows = []
        for number, field in sorted(self._before):
            before = self._before[(number, field)]
            value = self.get(number, field)
            if before != (value,):
                rows.append((number, field, before, value))
        self._fresh = []
        self._before = {}
        return fresh, rows

    def take_back(self, fresh, rows):
        """Take back changes, the last ones that there were."""
        for number, field, before, _ in rows:
            if before:
                self._cells[number][field] = before[0]
            else:
                del self._cells[number][field]
        self.free(fresh)
        self._made = self._made - len(fresh)

    def twin(self):
        """Return a Ledger with the same cells, nothing being noted in it, that goes on by itself."""
        other = Ledger()
        other._cells = {number: dict(self._cells[number]) for number in self._cells}
        other._made = self._made
        return other
