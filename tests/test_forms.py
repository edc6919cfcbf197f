import unittest

from reachkept.forms import is_body, is_expression, is_module, is_statement
from tests.things import NOTHING, STRANGE, call, cell, changed, deep, integer, name, word, work

ONE = integer(1)

EXPRESSIONS = [
    ONE, integer(-(10 ** 40)), word("a"), NOTHING, name("abcdefgh"), cell(), cell(a=ONE, b=cell(a=ONE)),
    ("field", name("a"), "f"), ("make", (), ()), ("make", ("a", "b"), (("back", name("a")),)), ("maker", (), ()),
    ("maker", ("x",), (("yield", name("x")),)), call(name("f")), call(name("f"), ONE, NOTHING),
    ("next", name("g")), deep(60),
] + [work(op, ONE, name("a")) for op in ["add", "sub", "mul", "quo", "rest", "less", "same"]] + [
    ("is", kind, ONE) for kind in ["cell", "function", "generator", "integer", "nothing", "word"]]

STATEMENTS = [
    ("let", "x", ONE), ("put", "x", ONE), ("store", name("c"), "f", ONE), ("tell", ONE), ("do", ONE),
    ("if", ONE, (), ()), ("if", ONE, (("tell", ONE),), (("tell", NOTHING),)), ("while", ONE, ()),
    ("while", ONE, (("do", ONE),)), ("back", ONE), ("throw", ONE), ("try", (), "e", ()),
    ("try", (("throw", ONE),), "e", (("tell", name("e")),)), ("yield", ONE),
]

NO_EXPRESSIONS = [
    ("integer", True), ("integer", False), ("integer", None), ("integer", "a"), ("integer",), ("integer", 1, 1),
    ("integer", [1]), ["integer", 1], ("word", "let"), ("word", "abcdefghi"), ("word", ""), ("word", 1),
    ("nothing", None), ("nothing", ()), ["nothing"], ("name", "yield"), ("name", ["a"]), ("name",),
    ("work", "div", ONE, ONE), ("work", ["add"], ONE, ONE), ("work", "add", ONE), ("work", "add", ONE, ONE, ONE),
    ("work", "add", ONE, 1), ("work", None, ONE, ONE), ("work", True, ONE, ONE),
    ("cell", [("a", ONE)]), ("cell", (["a", ONE],)), ("cell", (("a", ONE), ("a", ONE))), ("cell", (("a",),)),
    ("cell", (("a", ONE, ONE),)), ("cell", (("let", ONE),)), ("cell", (("a", 1),)), ("cell",), ("cell", None),
    ("cell", {}), ("cell", ((["a"], ONE),)), ("cell", (("a", ["integer", 1]),)),
    ("field", ONE, "let"), ("field", "f", ONE), ("field", ONE), ("make", ("a", "a"), ()), ("make", ["a"], ()),
    ("make", ("a",), []), ("make", (), (ONE,)), ("make", (["a"],), ()), ("make", ()), ("maker", ("a", "a"), ()),
    ("maker", None, ()), ("maker", (), None), ("call", ONE), ("call", ONE, [ONE]), ("call", ONE, ONE),
    ("call", ONE, (1,)), ("call", 1, ()), ("next",), ("next", 1), ("is", "add", ONE), ("is", "cell"),
    ("is", ["cell"], ONE), ("is", ONE, "cell"), ("is", "module", ONE), ("let", "x", ONE), ("add", ONE, ONE), (),
    ("at", 0), (["integer"], 1), (None,), "nothing", "integer",
]

NO_STATEMENTS = [
    ("let", ONE, "x"), ("let", "if", ONE), ("let", "x"), ("let", "x", 1), ["let", "x", ONE], ("put", "x", None),
    ("put", "x", ONE, ONE), ("store", name("c"), ONE, "f"), ("store", name("c"), "f"), ("store", "c", "f", ONE),
    ("tell",), ("tell", 1), ("tell", ONE, ONE), ("do", ("tell", ONE)), ("do", True), ("if", ONE, ()),
    ("if", ONE, [], ()), ("if", ONE, (), []), ("if", ONE, (), None), ("if", (), (), ()), ("if", ONE, (ONE,), ()),
    ("while", ONE), ("while", ONE, ("do", ONE)), ("while", (), ()), ("back",), ("back", None), ("throw",),
    ("throw", "kind"), ("try", (), "let", ()), ("try", (), "e"), ("try", [], "e", ()), ("try", (), ["e"], ()),
    ("try", (), "e", (1,)), ("yield",), ("yield", ()), ONE, NOTHING, (), ("while", ONE, (("do", ONE), ONE)),
]

MODULES = [
    ((), (), ()), ((("lib", "a", "b"),), (), ()), ((("lib", "a", "b"), ("lib", "a", "c")), ("x", "y"), (("do", ONE),)),
    ((), ("a", "b"), ()), ((("lib", "b", "b"), ("lib", "a", "a")), (), ()),
]

NO_MODULES = [
    (), ((), ()), ((), (), (), ()), [(), (), ()], ([], (), ()), ((), [], ()), ((), (), []), ((("lib", "a"),), (), ()),
    ((["lib", "a", "b"],), (), ()), ((("lib", "a", "b"), ("bil", "c", "b")), (), ()), ((("let", "a", "b"),), (), ()),
    ((("lib", "if", "b"),), (), ()), ((("lib", "a", "is"),), (), ()), ((("lib", "a", 1),), (), ()),
    ((("lib", "a", ["b"]),), (), ()), ((), ("b", "a"), ()), ((), ("a", "a"), ()), ((), ("let",), ()), ((), (1,), ()),
    ((), (["a"],), ()), ((), "a", ()), ((), (), (ONE,)), ((), (), ("do", ONE)), ((("lib", "a", "b", "c"),), (), ()),
    ("abc", (), ()), (None, (), ()), ((), None, ()), ((), (), None),
]


class TestForms(unittest.TestCase):
    def test_expressions(self):
        for thing in EXPRESSIONS:
            self.assertIs(is_expression(thing), True, thing)
            self.assertIs(is_statement(thing), False, thing)
        for thing in NO_EXPRESSIONS:
            self.assertIs(is_expression(thing), False, thing)

    def test_statements(self):
        for thing in STATEMENTS:
            self.assertIs(is_statement(thing), True, thing)
            self.assertIs(is_expression(thing), False, thing)
        for thing in NO_STATEMENTS:
            self.assertIs(is_statement(thing), False, thing)

    def test_bodies(self):
        for thing in [(), tuple(STATEMENTS)] + [(statement,) for statement in STATEMENTS]:
            self.assertIs(is_body(thing), True, thing)
        for thing in [None, [], "", {}, [("do", ONE)], ("do", ONE), (ONE,), (("do", ONE), [])]:
            self.assertIs(is_body(thing), False, thing)
        for thing in NO_STATEMENTS:
            self.assertIs(is_body((("do", ONE), thing)), False, thing)

    def test_modules(self):
        for thing in MODULES:
            self.assertIs(is_module(thing), True, thing)
        for thing in NO_MODULES:
            self.assertIs(is_module(thing), False, thing)

    def test_what_is_wrong_is_found_wherever_it_stands(self):
        for wrong in NO_EXPRESSIONS:
            for one in [work("add", ONE, wrong), work("add", wrong, ONE), cell(a=wrong), ("field", wrong, "f"),
                        ("next", wrong), call(wrong), call(ONE, ONE, wrong), ("is", "cell", wrong),
                        ("make", (), (("tell", wrong),)), ("maker", (), (("while", ONE, (("do", wrong),)),))]:
                self.assertIs(is_expression(one), False, one)
            for one in [("let", "x", wrong), ("put", "x", wrong), ("store", wrong, "f", ONE),
                        ("store", ONE, "f", wrong), ("tell", wrong), ("do", wrong), ("if", wrong, (), ()),
                        ("while", wrong, ()), ("back", wrong), ("throw", wrong), ("yield", wrong)]:
                self.assertIs(is_statement(one), False, one)
        for wrong in NO_STATEMENTS:
            for one in [("if", ONE, (wrong,), ()), ("if", ONE, (), (wrong,)), ("while", ONE, (wrong,)),
                        ("try", (wrong,), "e", ()), ("try", (), "e", (wrong,)), ("do", ("make", (), (wrong,)))]:
                self.assertIs(is_statement(one), False, one)

    def test_any_value_is_taken(self):
        parts = EXPRESSIONS[:15] + STATEMENTS + MODULES + [tuple(STATEMENTS[:4])]
        things = STRANGE + [inner for part in parts for inner in changed(part)]
        for thing in things:
            for tells in [is_expression, is_statement, is_body, is_module]:
                self.assertIs(type(tells(thing)), bool)

    def test_what_is_changed_is_seldom_of_the_form(self):
        for thing in [("integer", 5), ("nothing",), ("name", "ab"), ("field", ("nothing",), "ab")]:
            for inner in changed(thing):
                if is_expression(inner):
                    self.assertIs(type(inner), tuple)
                    self.assertEqual((inner[0], len(inner)), (thing[0], len(thing)))
                    self.assertFalse(any(part is True or part is False for part in inner))


if __name__ == "__main__":
    unittest.main()
