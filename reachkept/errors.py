"""The errors that the package raises, each with the arguments it was made with."""


class ReachError(ValueError):
    """What all errors of the package are; it is raised nowhere itself."""


class Wrong(ReachError):
    """An argument, counted from 0, is not as described."""

    def __init__(self, place):
        self.place = place


class Gone(ReachError):
    """There is no cell with the number."""

    def __init__(self, number):
        self.number = number


class NoField(ReachError):
    """The cell has no such field."""

    def __init__(self, number, field):
        self.number = number
        self.field = field


class Missing(ReachError):
    """A module is named and is not there."""

    def __init__(self, name):
        self.name = name


class Round(ReachError):
    """Imports lead from a module back to it."""

    def __init__(self, name):
        self.name = name


class NoExport(ReachError):
    """A module does not export the name, or cannot."""

    def __init__(self, home, name):
        self.home = home
        self.name = name


class Loose(ReachError):
    """A name in a module belongs to nothing around it."""

    def __init__(self, home, name):
        self.home = home
        self.name = name


class Fixed(ReachError):
    """The name of an import is given a value."""

    def __init__(self, home, name):
        self.home = home
        self.name = name


class Misplaced(ReachError):
    """A back or a yield stands where it may not."""

    def __init__(self, home, word):
        self.home = home
        self.word = word


class NoModule(ReachError):
    """There is no such module."""

    def __init__(self, name):
        self.name = name


class Over(ReachError):
    """The run has ended."""


class NoStep(ReachError):
    """A step is none, or cannot be done."""


class Stopped(ReachError):
    """One of several things to do is refused."""

    def __init__(self, index):
        self.index = index


class Unlike(ReachError):
    """Two traces have not the same size and kept registers."""


class NoTrace(ReachError):
    """A way has no trace."""


class NoFit(ReachError):
    """A trace may not stand for a way."""


class TooFar(ReachError):
    """There are fewer than so many."""

    def __init__(self, number):
        self.number = number


class Nothing(ReachError):
    """There is nothing to take back or to do again."""


class NoText(ReachError):
    """A text writes nothing of the kind."""


class NoDeed(ReachError):
    """A deed is none by its form."""


class NoNumber(ReachError):
    """There is no claim with the number."""

    def __init__(self, number):
        self.number = number


class Losing(ReachError):
    """A plan loses cells, as is shown."""

    def __init__(self, shown):
        self.shown = shown


class Broken(ReachError):
    """A claim would not hold."""

    def __init__(self, number, found):
        self.number = number
        self.found = found


class NoCommand(ReachError):
    """A line is no command."""
