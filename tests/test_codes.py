import unittest

from reachkept.codes import is_codes, is_op
from tests.things import STRANGE, changed

WORKS = ["add", "sub", "mul", "quo", "rest", "less", "same"]
KINDS = ["cell", "function", "generator", "integer", "nothing", "word"]

OPS = [
    ("keep", 0, 5), ("keep", 0, -(10 ** 40)), ("keep", 3, "w"), ("keep", 3, None), ("move", 0, 0), ("outer", 0, 1, 2),
    ("into", 1, 0, 2), ("other", 0, 0, 0), ("cell", 7), ("load", 0, 1, "f"), ("store", 0, "f", 1), ("close", 0, 0),
    ("call", 0, 1, ()), ("call", 0, 1, (2, 2, 0)), ("next", 0, 1), ("tell", 0), ("jump", 0), ("unless", 0, 10 ** 9),
    ("turn",), ("back", 0), ("end",), ("throw", 0), ("try", 0, 1), ("untry",), ("yield", 0),
] + [("work", 0, op, 1, 2) for op in WORKS] + [("is", 0, kind, 1) for kind in KINDS]

NATURAL = [-1, True, False, None, "a", (), [0], (0,), "0"]

# What may stand at the places of each op, and what may not: "n" for integers from 0 on, "h" for those from 1 on.
PARTS = {"keep": "nv", "move": "nn", "outer": "nhn", "into": "hnn", "other": "nnn", "work": "nonn", "cell": "n",
         "load": "nnf", "store": "nfn", "close": "nn", "call": "nnr", "next": "nn", "is": "nkn", "tell": "n",
         "jump": "n", "unless": "nn", "turn": "", "back": "n", "end": "", "throw": "n", "try": "nn", "untry": "",
         "yield": "n"}
GOOD = {"n": [0, 1, 10 ** 20], "h": [1, 2, 10 ** 20], "v": [0, -5, "w", "at", None], "o": WORKS, "k": KINDS,
        "f": ["f", "abcdefgh"], "r": [(), (0,), (3, 3, 1)]}
BAD = {"n": NATURAL, "h": NATURAL + [0], "v": [True, False, "let", "", "abcdefghi", (), [], ("at", 0), {}],
       "o": ["div", "", None, 0, ["add"], "is", "cell", True], "k": ["module", "make", "", None, 0, ["cell"], True],
       "f": ["let", "", "F", 0, None, True, ["f"], ("f",)],
       "r": [None, 0, [], [0], (True,), (0, -1), ("a",), ((0,),), (None,), "ab", {}]}

MODULE = (0, 1, "module", None, (("end",),))
MAKE = (1, 2, "make", 0, (("back", 0),))


class TestOps(unittest.TestCase):
    def test_each_op(self):
        for op in OPS:
            self.assertIs(is_op(op), True, op)
            self.assertIs(is_op(list(op)), False, op)
            self.assertIs(is_op(op + (0,)), False, op)
            self.assertIs(is_op(op[:-1]), False, op)
        self.assertEqual(sorted({op[0] for op in OPS}), sorted(PARTS))

    def test_each_part_of_each_op(self):
        for word, parts in PARTS.items():
            base = [GOOD[part][0] for part in parts]
            self.assertIs(is_op((word, *base)), True)
            for index, part in enumerate(parts):
                for thing in GOOD[part]:
                    self.assertIs(is_op((word, *base[:index], thing, *base[index + 1:])), True)
                for thing in BAD[part]:
                    op = (word, *base[:index], thing, *base[index + 1:])
                    self.assertIs(is_op(op), False, op)

    def test_other_words(self):
        for word in ["let", "field", "nothing", "", "Keep", "keep ", None, 0, True, ["keep"], ("keep",)]:
            for rest in [(), (0,), (0, 0), (0, 0, 0), (0, "add", 0, 0)]:
                self.assertIs(is_op((word, *rest)), False)

    def test_any_value_is_taken(self):
        for thing in STRANGE + [inner for op in OPS for inner in changed(op)]:
            self.assertIs(type(is_op(thing)), bool)
        for thing in STRANGE:
            self.assertIs(is_op(thing), False)


class TestCodes(unittest.TestCase):
    def test_codes(self):
        for thing in [((MODULE,), (0,)), ((MODULE, MAKE), (0,)), ((MODULE, MAKE, MODULE), (2, 0)),
                      ((MODULE, MAKE, MODULE), (0, 2)), ((MODULE, MODULE), (1,)),
                      ((MODULE, (0, 0, "maker", 9, (("turn",),))), (0,)),
                      ((MODULE, (2, 2, "make", 1, tuple(OPS))), (0,)),
                      (((0, 0, "module", None, (("jump", 99),)),), (0,))]:
            self.assertIs(is_codes(thing), True, thing)

    def test_wrong_codes(self):
        for code in [
                (0, 1, "module", 0, (("end",),)), (1, 1, "module", None, (("end",),)), (0, 1, "module", None, ()),
                (0, 1, "module", None, [("end",)]), (0, 1, "module", None), (0, 1, "module", None, (("end",),), 0),
                [0, 1, "module", None, (("end",),)], (0, -1, "module", None, (("end",),)),
                (-1, 1, "make", 0, (("end",),)), (False, 1, "module", None, (("end",),)),
                (0, True, "module", None, (("end",),)), (2, 1, "make", 0, (("end",),)),
                (0, 1, "make", None, (("end",),)), (0, 1, "maker", None, (("end",),)), (0, 1, "make", -1, (("end",),)),
                (0, 1, "make", True, (("end",),)), (0, 1, "call", 0, (("end",),)), (0, 1, ["make"], 0, (("end",),)),
                (0, 1, None, None, (("end",),)), (0, 1, "function", 0, (("end",),)), (0, 1, "make", 0, (["end"],)),
                (0, 1, "make", 0, (("end",), ("keep", 0))), (0, 1, "make", 0, ("end",)), (None, 1, "make", 0, (("end",),)),
                (0, None, "make", 0, (("end",),)), (0, 1, "make", (0,), (("end",),)), None, (), "abcde", 5]:
            self.assertIs(is_codes(((MODULE, code), (0,))), False, code)
            self.assertIs(is_codes(((code, MODULE), (1,))), False, code)

    def test_orders(self):
        some = (MODULE, MAKE, MODULE)
        for order in [(), (1,), (0, 1), (0, 0), (0, 2, 0), (3,), (0, 3), (-1,), (True,), (False,), (None,), ("0",),
                      [0], [], 0, None, ((0,),), (0, [2]), (0, 2, 2), {0: 2}]:
            self.assertIs(is_codes((some, order)), False, order)

    def test_the_pair(self):
        for thing in [((), ()), ((), (0,)), ((MODULE,),), ((MODULE,), (0,), ()), [(MODULE,), (0,)],
                      ([MODULE], (0,)), ((MODULE,), [0]), (MODULE, (0,)), ({0: MODULE}, (0,)), (None, (0,)),
                      ((MAKE,), (0,))]:
            self.assertIs(is_codes(thing), False, thing)

    def test_any_value_is_taken(self):
        thing = ((MODULE, MAKE), (0,))
        for inner in STRANGE + changed(thing):
            self.assertIs(type(is_codes(inner)), bool)
        for inner in STRANGE:
            self.assertIs(is_codes(inner), False)


if __name__ == "__main__":
    unittest.main()
