"""Drafts: codes that are being written, with their names and the places to which ops lead."""

from reachkept.scopes import owned


class Draft:
    """A code that is being written for a module, a make or a maker.

    Its names have the registers 0, 1, .., and what is worked out on the way has those behind them.
    Outer is the Draft around it, or None; lent a dict from the own names of a module's imports to
    tuples of a code and a register. Ops lead to labels, whose places are known at the end.
    """

    def __init__(self, index, kind, givens, body, outer, lent):
        self.index = index
        self.kind = kind
        self.many = len(givens)
        self.body = body
        self.outer = outer
        self.lent = lent
        self.names = list(givens) + [name for name in owned(givens, body) if name not in givens]
        self.size = len(self.names)
        self.ops = []
        self.places = []

    def widen(self, size):
        """See to it that there are so many registers."""
        self.size = max(self.size, size)

    def label(self):
        """Return a new label."""
        self.places.append(None)
        return len(self.places) - 1

    def mark(self, label):
        """Let a label be the place of the next op."""
        self.places[label] = len(self.ops)

    def whereabouts(self, name):
        """Return how many hops out the Draft is to which a name belongs, and that Draft."""
        hops = 0
        home = self
        while name not in home.names and name not in home.lent:
            hops += 1
            home = home.outer
        return hops, home

    def has_own(self, name):
        """Tell whether a name belongs to this Draft itself and has a register."""
        return name in self.names

    def reading(self, name, target):
        """Return the op that gives a register the value of a name."""
        hops, home = self.whereabouts(name)
        if name not in home.names:
            index, place = home.lent[name]
            return ("other", target, index, place)
        place = home.names.index(name)
        return ("move", target, place) if hops == 0 else ("outer", target, hops, place)

    def code(self):
        """Return the code that was written."""
        outer = None if self.outer is None else self.outer.index
        return self.many, self.size, self.kind, outer, tuple([self._placed(op) for op in self.ops])

    def _placed(self, op):
        if op[0] == "jump":
            return ("jump", self.places[op[1]])
        if op[0] == "unless":
            return ("unless", op[1], self.places[op[2]])
        if op[0] == "try":
            return ("try", self.places[op[1]], op[2])
        return op
