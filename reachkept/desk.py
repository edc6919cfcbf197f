"""Desks: houses that are led by lines."""

from reachkept.commands import answered
from reachkept.errors import NoCommand
from reachkept.houses import House


class Desk:
    """A House that is led by lines."""

    def __init__(self, program):
        self._home = House(program)

    def execute(self, line):
        """Do what a line tells, and return the text that answers it."""
        text = answered(self._home, line)
        if text is None:
            raise NoCommand()
        return text

    def house(self):
        """Return a copy of the House."""
        return self._home.copied()
