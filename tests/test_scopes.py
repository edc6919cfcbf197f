import unittest

from reachkept.scopes import loose, many, misplaced, owned
from tests.things import NOTHING, call, cell, integer, name, work

ONE = integer(1)
EXAMPLE = (("let", "x", ONE), ("try", (("put", "y", name("x")),), "z", ()),
           ("do", ("make", ("x",), (("tell", name("q")),))))


def tell(own):
    return ("tell", name(own))


class TestOwned(unittest.TestCase):
    def test_the_example_of_the_document(self):
        self.assertEqual([owned(("g",), EXAMPLE), loose(["y"], EXAMPLE), many(EXAMPLE),
                          misplaced((("back", NOTHING),), "module")], [["g", "x", "z"], ["q"], 5, ["back"]])

    def test_nothing(self):
        self.assertEqual([owned((), ()), owned(("b", "a"), ())], [[], ["a", "b"]])

    def test_lets_and_tries_within_ifs_whiles_and_tries(self):
        body = (("if", ONE, (("let", "a", ONE),), (("let", "b", ONE),)),
                ("while", ONE, (("while", ONE, (("let", "c", ONE),)),)),
                ("try", (("let", "d", ONE),), "e", (("try", (), "f", (("let", "h", ONE),)),)))
        self.assertEqual(owned((), body), ["a", "b", "c", "d", "e", "f", "h"])

    def test_puts_and_stores_and_names_give_no_own_name(self):
        body = (("put", "a", ONE), ("store", name("b"), "c", ONE), tell("d"), ("do", cell(e=ONE)))
        self.assertEqual(owned((), body), [])

    def test_makes_within_keep_their_names(self):
        inner = ("make", ("g",), (("let", "a", ("maker", ("h",), (("try", (), "b", ()),))),))
        body = (("let", "c", inner), ("do", cell(f=inner)), ("if", inner, (), ()))
        self.assertEqual(owned((), body), ["c"])

    def test_each_name_once(self):
        body = (("let", "b", ONE), ("let", "a", ONE), ("try", (), "b", (("let", "a", ONE),)))
        self.assertEqual(owned(("b", "c"), body), ["a", "b", "c"])


class TestLoose(unittest.TestCase):
    def test_names_and_puts_in_every_place(self):
        body = (("let", "x", name("a")), ("put", "b", name("c")), ("store", name("d"), "no", name("e")),
                ("tell", name("f")), ("do", name("g")), ("if", name("h"), (tell("i"),), (tell("j"),)),
                ("while", name("k"), (tell("l"),)), ("back", name("m")), ("throw", name("n")),
                ("try", (tell("o"),), "y", (tell("p"),)), ("yield", name("q")))
        self.assertEqual(loose([], body), list("abcdefghijklmnopq"))
        ones = (work("add", name("a"), name("b")), cell(no=name("c"), nor=name("d")), ("field", name("e"), "no"),
                call(name("f"), name("g"), name("h")), ("next", name("i")), ("is", "cell", name("j")),
                ("make", (), (tell("k"),)), ("maker", (), (("put", "l", name("m")),)))
        self.assertEqual(loose([], tuple([("do", one) for one in ones])), list("abcdefghijklm"))

    def test_what_is_known(self):
        body = (tell("a"), tell("b"), ("put", "c", ONE))
        self.assertEqual(loose(["b", "z"], body), ["a", "c"])
        self.assertEqual(loose(["a", "b", "c"], body), [])

    def test_lets_and_tries_of_the_body_are_known_everywhere_in_it(self):
        body = (tell("a"), ("if", ONE, (("let", "a", ONE),), ()), tell("e"),
                ("do", ("make", (), (tell("a"), tell("e"), ("put", "a", ONE)))), ("try", (), "e", ()))
        self.assertEqual(loose([], body), [])

    def test_names_of_makes_are_known_in_them_alone(self):
        inner = ("make", ("g",), (tell("g"), ("let", "a", ONE), tell("a"),
                                  ("do", ("maker", (), (tell("g"), tell("a"), ("let", "b", ONE), tell("b"))))))
        self.assertEqual(loose([], (("do", inner),)), [])
        self.assertEqual(loose([], (("do", inner), tell("g"), tell("a"), tell("b"))), ["a", "b", "g"])
        beside = ("do", ("make", ("h",), (("do", inner), tell("b"))))
        self.assertEqual(loose([], (beside,)), ["b"])
        self.assertEqual(loose([], (("do", call(inner, name("g"))),)), ["g"])

    def test_each_name_once_and_ascending(self):
        self.assertEqual(loose([], (tell("z"), tell("b"), tell("z"), ("put", "b", name("a")))), ["a", "b", "z"])

    def test_fields_and_rows_are_no_names(self):
        body = (("do", cell(a=ONE)), ("do", ("field", NOTHING, "b")), ("store", NOTHING, "c", ONE),
                ("do", ("word", "d")))
        self.assertEqual(loose([], body), [])

    def test_what_is_handed_in_stays(self):
        names = ["b"]
        loose(names, (("let", "a", ONE), tell("b")))
        self.assertEqual(names, ["b"])


class TestMisplaced(unittest.TestCase):
    def test_by_kind(self):
        both = (("yield", ONE), ("back", ONE), ("yield", ONE))
        self.assertEqual([misplaced(both, kind) for kind in ["module", "make", "maker"]],
                         [["back", "yield"], ["yield"], []])
        self.assertEqual([misplaced((), kind) for kind in ["module", "make", "maker"]], [[], [], []])

    def test_within_others(self):
        for wrong in [("if", ONE, (("yield", ONE),), ()), ("if", ONE, (), (("yield", ONE),)),
                      ("while", ONE, (("yield", ONE),)), ("try", (("yield", ONE),), "e", ()),
                      ("try", (), "e", (("yield", ONE),))]:
            self.assertEqual([misplaced((wrong,), kind) for kind in ["module", "make", "maker"]],
                             [["yield"], ["yield"], []])

    def test_within_makes(self):
        both = (("back", ONE), ("yield", ONE))
        for kind in ["module", "make", "maker"]:
            self.assertEqual(misplaced((("do", ("make", (), both)),), kind), ["yield"])
            self.assertEqual(misplaced((("do", ("maker", (), both)),), kind), [])
            self.assertEqual(misplaced((("tell", ("maker", (), (("do", ("make", (), both)),))),), kind), ["yield"])
            self.assertEqual(misplaced((("tell", ("make", (), (("do", ("maker", (), both)),))),), kind), [])
        self.assertEqual(misplaced((("do", ("maker", (), both)), ("back", ONE)), "module"), ["back"])


class TestMany(unittest.TestCase):
    def test_all_are_counted(self):
        self.assertEqual(many(()), 0)
        self.assertEqual(many((("do", ONE), ("tell", ONE))), 2)
        self.assertEqual(many((("if", ONE, (("do", ONE),), (("do", ONE), ("do", ONE))),)), 4)
        self.assertEqual(many((("while", ONE, (("do", ONE),)), ("try", (("do", ONE),), "e", (("do", ONE),)))), 5)
        inner = ("make", (), (("do", ONE), ("back", ("maker", (), (("yield", ONE),)))))
        self.assertEqual(many((("let", "a", inner), ("do", call(name("a"), inner)))), 8)

    def test_new_lists_each_time(self):
        for function, arguments in [(owned, ((), EXAMPLE)), (loose, ([], EXAMPLE)), (misplaced, (EXAMPLE, "make"))]:
            first = function(*arguments)
            kept = list(first)
            first.append("more")
            self.assertEqual(function(*arguments), kept)


if __name__ == "__main__":
    unittest.main()
