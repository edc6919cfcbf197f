"""Journals: machines whose ops can be taken back and done again."""

from reachkept.checking import is_sound
from reachkept.codes import is_codes
from reachkept.doings import do_next
from reachkept.engines import started_on
from reachkept.errors import Nothing, TooFar, Wrong
from reachkept.kinds import is_natural
from reachkept.ledgers import Ledger
from reachkept.machines import machine_on


class Journal:
    """A Machine and what it has done.

    Each op that was done has an entry: what it changed in the cells, as tuples (fresh, rows) of a
    Ledger, and the ticks that were left and how many things had been told ahead of it.
    """

    def __init__(self, codes, ticks):
        if not is_codes(codes) or not is_sound(codes):
            raise Wrong(0)
        if not is_natural(ticks):
            raise Wrong(1)
        cells = Ledger()
        self._engine = started_on(cells, codes, ticks)
        cells.changes()
        self._entries = []
        # What was taken back and not done again: how many ops, and whether the run had ended behind them.
        self._undone = []

    def __len__(self):
        return len(self._entries)

    def machine(self):
        """Return a copy of the Machine."""
        return machine_on(self._engine.copied_on(self._engine.cells.copied()))

    def on(self, many):
        """Do at most so many ops, and return how many were done."""
        self._undone = []
        return self._do(many)

    def to(self, code, op):
        """Do ops, one at least, until an op of a code is next or the run has ended; return how many were done."""
        self._undone = []
        count = self._do(1)
        while self._engine.ending is None and self._engine.where(self._engine.running_frame()) != (code, op):
            count += self._do(1)
        return count

    def back(self, many):
        """Take back the last ops."""
        if many > len(self._entries):
            raise TooFar(many)
        if many > 0:
            self._undone.append((many, self._engine.ending is not None))
            self._take_back(self._engine, many)
            del self._entries[len(self._entries) - many:]

    def again(self):
        """Do once more what the last back took back that was not done again."""
        if not self._undone:
            raise Nothing()
        many, had_ended = self._undone.pop()
        self._do(many)
        if had_ended and self._engine.ending is None:
            # A tick was lacking then for one more op.
            self._do(1)

    def last_put(self, number, field):
        """Return the number of the op by which a field of a cell got the value that it has, or None."""
        # This raises the errors for cells and fields that are not there.
        self._engine.cells.get(number, field)
        for at in reversed(range(len(self._entries))):
            _, rows, _, _ = self._entries[at]
            if any([row[:2] == (number, field) for row in rows]):
                return at
        return None

    def tellers(self):
        """Return the list of the tuples of the number of an op and what was told by it."""
        counts = [said for _, _, _, said in self._entries] + [len(self._engine.said)]
        found = []
        for at in range(len(self._entries)):
            found.extend([(at, told) for told in self._engine.said[counts[at]:counts[at + 1]]])
        return found

    def at_op(self, number):
        """Return the Machine as it was ahead of the op with a number, or as it is behind the last one."""
        if not 0 <= number <= len(self._entries):
            raise TooFar(number)
        engine = self._engine.copied_on(self._engine.cells.twin())
        self._take_back(engine, len(self._entries) - number)
        return machine_on(engine.copied_on(engine.cells.copied()))

    def _do(self, many):
        """Do at most so many ops, until the run has ended; return how many were done."""
        engine = self._engine
        first = engine.count
        while engine.ending is None and engine.count - first < many:
            count = engine.count
            ticks, said = engine.ticks, len(engine.said)
            do_next(engine)
            fresh, rows = engine.cells.changes()
            if engine.count > count:
                self._entries.append((fresh, rows, ticks, said))
        return engine.count - first

    def _take_back(self, engine, many):
        """Take back the last ops of an Engine that has done those of the entries."""
        for at in reversed(range(len(self._entries) - many, len(self._entries))):
            fresh, rows, ticks, said = self._entries[at]
            engine.cells.take_back(fresh, rows)
            engine.ticks = ticks
            del engine.said[said:]
            engine.ending = None
            engine.count = engine.count - 1
