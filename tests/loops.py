"""Programs made by chance with whiles whose rounds have traces, the same ones each time."""

import random

from reachkept.programs import Program
from tests.things import NOTHING, call, integer, name, word, work


class Looper:
    def __init__(self, seed):
        self.chance = random.Random(seed)

    def some(self, things):
        return self.chance.choice(things)

    def one(self, own):
        what = self.chance.randrange(9)
        if what < 4:
            return name(self.some(own))
        if what < 6:
            return self.some([integer(0), integer(1), integer(2), NOTHING, word("w")])
        if what < 7:
            return work(self.some(["add", "sub", "mul", "less", "same", "rest", "quo"]), name(self.some(own)),
                        self.some([name(self.some(own)), integer(2)]))
        if what < 8:
            return ("field", name("c"), self.some("fg"))
        return ("cell", ()) if self.chance.random() < 0.5 else ("cell", (("f", name(self.some(own))),))

    def statement(self, own, deep, calls):
        what = self.chance.randrange(12)
        free = [one for one in own if one != "n"]
        if what < 3:
            return ("tell", self.one(own))
        if what < 6:
            return ("put", self.some(free), self.one(own))
        if what < 8:
            return ("store", name("c"), self.some("fg"), self.one(own))
        if what < 9 and deep:
            return ("if", self.one(own), self.body(own, deep - 1, calls, 2), self.body(own, deep - 1, calls, 1))
        if what < 10:
            return ("put", "c", ("cell", (("f", name("c")), ("g", self.one(own)))))
        if what < 11 and calls:
            return ("do", call(name("h"), self.one(own)))
        return ("if", ("is", "cell", name(self.some(own))), (), (("tell", name("n")),))

    def body(self, own, deep, calls, most):
        return tuple(self.statement(own, deep, calls) for _ in range(self.chance.randint(0, most)))

    def loop(self, own, calls, inner):
        rows = self.body(own, 1, calls, 3)
        if inner:
            rows = rows + (("put", "s", integer(2)), ("while", name("s"), (("put", "s", work("sub", name("s"), integer(1))),)
                            + self.body([one for one in own if one != "s"] + ["c"], 0, False, 1)))
        down = (("put", "n", work("sub", name("n"), integer(1))),)
        return ("while", name("n"), rows + down if self.chance.random() < 0.7 else down + rows)

    def part(self, calls):
        """A body that lets names and has a loop, most often within a try."""
        lets = (("let", "c", ("cell", (("f", integer(1)), ("g", integer(0))))), ("let", "s", integer(0)))
        loop = self.loop(["n", "c", "s"], calls, self.chance.random() < 0.3)
        if self.chance.random() < 0.6:
            loop = ("try", (loop,), "s", (("tell", name("s")),))
        return lets + (loop, ("tell", ("field", name("c"), "f")) if self.chance.random() < 0.3 else ("tell", name("s")))

    def program(self):
        function = ("make", ("n",), self.part(False) + (("back", name("s")),))
        maker = ("maker", ("n",), self.part(False) + (("yield", name("n")),))
        lib = (("let", "h", function), ("let", "t", maker))
        top = (("let", "n", integer(self.chance.randint(0, 6))),) + self.part(self.chance.random() < 0.4)
        top += tuple(("try", (("tell", self.some([call(name("h"), integer(self.chance.randint(0, 5))),
                                                  ("next", call(name("t"), integer(3)))])),), "s", ())
                     for _ in range(self.chance.randint(0, 3)))
        modules = {"lib": ((), ("h", "t"), lib), "top": ((("lib", "h", "h"), ("lib", "t", "t")), (), top)}
        return Program(modules, "top")


def looping(seed):
    return Looper(seed).program()
