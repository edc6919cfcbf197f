"""Programs made by chance, the same ones each time, that hang together and do much."""

import random

from reachkept.programs import Program
from tests.things import NOTHING, integer, name, word

WORKS = ["add", "sub", "mul", "quo", "rest", "less", "same"]
IMPORTED = "uvxyz"  # The second letters of the names of imports, which nothing else has.
KINDS = ["cell", "function", "generator", "integer", "nothing", "word"]


class Maker:
    def __init__(self, seed):
        self.chance = random.Random(seed)
        self.room = 0

    def some(self, things):
        return self.chance.choice(things)

    def rarely(self, part):
        return self.chance.random() < part

    def of(self, letter, known):
        """A name for a value of the sort that its first letter tells, if one is known."""
        fit = [own for own in known if own[0] == letter]
        if not fit or self.rarely(0.08):
            fit = known
        return name(self.some(fit)) if fit else self.literal()

    def literal(self):
        if self.rarely(0.03):
            return integer(self.some([10 ** 9, -(10 ** 9), 10 ** 30, -(10 ** 30)]))
        return self.some([integer(self.chance.randint(-3, 4)), integer(0), integer(1), integer(2), NOTHING,
                          word(self.some(["w", "v"]))])

    def expression(self, known, deep, outer):
        if deep <= 0:
            return self.of(self.some("nnnnncfg"), known) if self.rarely(0.6) else self.literal()
        what = self.chance.randrange(16)
        if what < 4:
            one = self.of("n", known) if self.rarely(0.7) else self.expression(known, deep - 1, outer)
            other = self.literal() if self.rarely(0.5) else self.expression(known, deep - 1, outer)
            return ("work", self.some(WORKS), one, other)
        if what < 6:
            rows = self.chance.sample(["p", "q", "r"], self.chance.randint(0, 2))
            return ("cell", tuple((own, self.expression(known, deep - 1, outer)) for own in rows))
        if what < 8:
            return ("field", self.of("c", known), self.some("pqr"))
        if what < 11:
            others = [self.expression(known, deep - 1, outer) for _ in range(self.some([1, 1, 1, 1, 0, 2]))]
            return ("call", self.of("f", known), tuple(others))
        if what < 13:
            return ("next", self.of("g", known))
        if what < 14:
            return ("is", self.some(KINDS), self.expression(known, deep - 1, outer))
        if what < 15 and outer < 3:
            return self.make(self.some(["make", "maker"]), known, outer)
        return self.of(self.some("nnncfg"), known)

    def make(self, kind, known, outer):
        givens = ("n" + "abcd"[outer],)
        inside = list(known) + list(givens)
        body = self.body(inside, outer + 1, kind, self.chance.randint(1, 4))
        return (kind, givens, body)

    def body(self, known, outer, kind, many):
        """A body that belongs to a make, a maker or a module, with own names ahead of some statements."""
        own = ["n" + "efgh"[outer], "c" + "efgh"[outer]] if self.rarely(0.6) else []
        if outer == 0:
            own = own + ["f" + "e", "g" + "e", "fi", "gi"]
        inside = [known for known in known] + own
        rows = [self.guarded(row, outer, 0.85 if kind == "module" else 0.3)
                for row in self.statements(inside, outer, kind, many, 0)]
        lets = [("let", one, self.first(one, inside, outer)) for one in own]
        if self.rarely(0.2):
            self.chance.shuffle(lets)
        for one in lets:
            place = 0 if self.rarely(0.1) else min(len(rows), lets.index(one))
            rows.insert(place, one)
        return tuple(rows)

    def first(self, own, known, outer):
        if own[0] == "n":
            return self.some([self.literal(), integer(3)])
        if own[0] == "c":
            return ("cell", (("p", self.expression(known, 0, outer)), ("q", integer(1))))
        if own[0] == "f":
            return self.make(self.some(["make", "make", "make", "maker"]), known, outer)
        maker = self.make("maker", known, outer)
        return ("call", maker, (self.expression(known, 0, outer),))

    def guarded(self, row, outer, part):
        if not self.rarely(part):
            return row
        own = "e" + "efgh"[outer]
        return ("try", (row,), own, (("tell", name(own)),) if self.rarely(0.5) else ())

    def statements(self, known, outer, kind, many, deep):
        return [self.statement(known, outer, kind, deep) for _ in range(many)]

    def statement(self, known, outer, kind, deep):
        one = self.expression(known, self.some([0, 1, 1, 2]), outer)
        what = self.chance.randrange(20)
        free = [own for own in known if own[1] not in IMPORTED]
        if kind != "module" and what == 0:
            return ("back", one)
        if kind == "maker" and what < 5:
            return ("yield", one)
        if what < 7:
            return ("tell", one)
        if what < 9:
            return ("do", one)
        if what < 12:
            return ("put", self.some(free), one) if free else ("do", one)
        if what < 14:
            return ("store", self.of("c", known), self.some("pqr"), one)
        if what == 14 and self.rarely(0.5):
            return ("throw", one)
        if deep >= 2:
            return ("tell", self.of("n", known))
        first, second = [tuple(self.statements(known, outer, kind, self.chance.randint(0, 2), deep + 1))
                         for _ in range(2)]
        if what < 16:
            return ("if", one, first, second)
        if what < 18:
            return ("while", one, first + ((("put", self.some(free), integer(0)),) if free else ()))
        return ("try", first, "e" + "efgh"[outer], second)


def made(seed):
    """Return a tuple of modules, the name of the main one, and their Program."""
    maker = Maker(seed)
    modules = {}
    for home in ["lib", "mid", "top"][-maker.some([1, 1, 2, 3]):]:
        imports = []
        for other in modules:
            for export in modules[other][1]:
                if maker.rarely(0.5):
                    imports.append((other, export, export[0] + IMPORTED[len(imports)]))
        known = [own for _, _, own in imports]
        body = maker.body(known, 0, "module", maker.chance.randint(2, 6))
        body = body + (("try", (), "ee", (("let", "gi", NOTHING), ("let", "fi", NOTHING))),)
        modules[home] = (tuple(imports), tuple(sorted(maker.chance.sample(["ee", "fe", "ge"], 2))), body)
    return modules, "top", Program(modules, "top")
