"""Collectors that go along with a program by small steps."""


class Collector:
    """A collector on a Stand whose cells are a Ledger; pace is how many steps it does behind which op.

    Rounds is how often it has ended, swept how many cells it has freed, and lacking the list of the
    lost ones; where there are such, it does no more.
    """

    def __init__(self, stand, pace):
        self.stand = stand
        self.pace = pace
        self.rounds = 0
        self.swept = 0
        self.lacking = []

    def copied_on(self, cells):
        """Return a Collector like this one that goes on by itself, on a copy of its cells."""
        other = Collector(self.stand.copied_on(cells), self.pace)
        other.rounds = self.rounds
        other.swept = self.swept
        other.lacking = list(self.lacking)
        return other

    def heed(self):
        """Take what was changed in the cells since this was called the last time for puts."""
        fresh, rows = self.stand.cells.changes()
        for number in fresh:
            self.stand.meet(number)
        for number, field, before, value in rows:
            self.stand.mind(number, field, before, value)

    def go_along(self, count):
        """Do the steps behind the op with a number."""
        for _ in range(self.pace[count % len(self.pace)]):
            if not self.lacking:
                self._step()

    def _step(self):
        stand = self.stand
        if not stand.marking:
            stand.begin()
        elif not stand.unscanned:
            freed, self.lacking = stand.finish()
            self.rounds = self.rounds + 1
            self.swept = self.swept + len(freed)
        else:
            number = stand.least_grey_cell()
            fields = stand.unscanned[number]
            if fields and stand.rules[0] == "fields":
                stand.scan_field(number, min(fields))
            else:
                stand.scan_cell(number)
