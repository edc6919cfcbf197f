import unittest

from reachkept.errors import Loose, NoModule
from reachkept.programs import Program
from reachkept.watching import deepest, thrown, watched
from tests.made import made
from tests.oracle import Reader
from tests.test_reading import ONE, count, let, make, maker, tells, top
from tests.things import NOTHING, STRANGE, call, cell, integer, name, word, work


class TestExample(unittest.TestCase):
    def test_the_example_of_the_document(self):
        counting = maker(("while", name("n"), (("yield", name("n")), ("put", "n", work("sub", name("n"), ONE)))),
                         givens=["n"])
        some = (let("g", call(counting, integer(2))),) + tells(*[("next", name("g"))] * 3)
        program = Program({"top": ((), ("g",), some)}, "top")
        self.assertEqual([deepest(program, 50), thrown(program, 50), watched(program, 50, "top", "g")],
                         [1, ["over"], ["generator"]])


class TestWatched(unittest.TestCase):
    def test_lets_puts_and_tries(self):
        program = top(let("a", ONE), ("put", "a", word("w")), ("try", (("throw", cell()),), "a", ()), let("a", NOTHING),
                      ("try", (), "a", ()), let("b", integer(7)), ("put", "a", integer(1)))
        self.assertEqual(watched(program, 0, "top", "a"), [1, "w", "cell", "nothing", 1])
        self.assertEqual(watched(program, 0, "top", "b"), [7])

    def test_puts_of_makes_within(self):
        program = top(let("n", integer(0)), let("f", make(count("n"), ("do", call(make(count("n")))))),
                      ("do", call(name("f"))), ("do", call(name("f"))))
        self.assertEqual(watched(program, 9, "top", "n"), [0, 1, 2, 3, 4])
        self.assertEqual(watched(program, 2, "top", "n"), [0, 1, 2])
        self.assertEqual(watched(program, 1, "top", "n"), [0, 1])
        self.assertEqual(watched(program, 9, "top", "f"), ["function"])

    def test_own_names_of_makes_do_not_count(self):
        program = top(let("n", integer(5)), ("do", call(make(let("n", ONE), count("n"), ("try", (("throw", ONE),), "n", ())))),
                      ("do", call(make(count("n"), givens=["n"]), integer(8))))
        self.assertEqual(watched(program, 9, "top", "n"), [5])

    def test_same_values_count_each_time(self):
        program = top(let("n", ONE), let("n", ONE), ("put", "n", name("n")))
        self.assertEqual(watched(program, 0, "top", "n"), [1, 1, 1])

    def test_names_without_a_value(self):
        program = top(("if", integer(0), (let("n", ONE),), ()))
        self.assertEqual(watched(program, 0, "top", "n"), [])

    def test_modules_by_their_names(self):
        lib = ((), ("n", "up"), (let("n", integer(4)), let("up", make(count("n")))))
        main = ((("lib", "up", "up"), ("lib", "n", "m")), (), (let("n", ONE), ("do", call(name("up"))),
                                                              let("n", name("m"))))
        other = ((("lib", "n", "m"),), (), (let("n", integer(9)),))
        program = Program({"lib": lib, "top": main, "other": other}, "top")
        self.assertEqual([watched(program, 5, home, "n") for home in ["lib", "top", "other"]], [[4, 5], [1, 5], []])
        for home, own in [("top", "up"), ("top", "m"), ("other", "m"), ("lib", "m"), ("lib", "x")]:
            with self.assertRaises(Loose) as caught:
                watched(program, 5, home, own)
            self.assertEqual((caught.exception.home, caught.exception.name), (home, own))

    def test_names_of_makes_alone_are_loose(self):
        program = top(let("f", make(let("a", ONE), ("try", (), "b", ()), givens=["c"])))
        for own in "abc":
            with self.assertRaises(Loose):
                watched(program, 0, "top", own)

    def test_no_module_comes_first(self):
        program = top(let("n", ONE))
        for home in ["toq", "n"] + STRANGE:
            with self.assertRaises(NoModule) as caught:
                watched(program, 0, home, "no")
            self.assertIs(caught.exception.name, home)
        for own in ["no"] + STRANGE:
            with self.assertRaises(Loose) as caught:
                watched(program, 0, "top", own)
            self.assertEqual(caught.exception.home, "top")
            self.assertIs(caught.exception.name, own)

    def test_new_lists(self):
        program = top(let("n", ONE), ("try", (("throw", ONE),), "e", ()))
        watched(program, 0, "top", "n").append(2)
        thrown(program, 0).append(2)
        self.assertEqual([watched(program, 0, "top", "n"), thrown(program, 0)], [[1], [1]])


class TestDeepest(unittest.TestCase):
    def test_calls(self):
        inner = make(("do", call(make())), ("do", call(make())))
        for program, expected in [
                (top(), 0), (top(*tells(ONE)), 0), (top(("do", call(maker()))), 0), (top(("do", call(make()))), 1),
                (top(("do", call(inner))), 2), (top(("do", call(inner)), ("do", call(make()))), 2),
                (top(("do", call(make(), call(make())))), 1), (top(("do", call(ONE))), 0),
                (top(("do", ("next", call(maker(("yield", ONE)))))), 1),
                (top(("do", ("next", call(maker(("yield", call(inner))))))), 3)]:
            self.assertEqual(deepest(program, 50), expected)

    def test_by_ticks(self):
        program = top(("do", call(make(("do", call(make()))))))
        self.assertEqual([deepest(program, ticks) for ticks in range(4)], [0, 1, 2, 2])

    def test_thirty_at_most(self):
        program = top(let("f", make(("do", call(name("f"))))), ("do", call(name("f"))))
        self.assertEqual([deepest(program, ticks) for ticks in [5, 29, 30, 31, 90]], [5, 29, 30, 30, 30])
        self.assertEqual(thrown(program, 90), ["deep"])


class TestThrown(unittest.TestCase):
    def test_what_goes_on_out_of_calls_counts_once(self):
        program = top(let("f", make(("throw", word("w")))), let("g", call(maker(("yield", call(name("f")))))),
                      ("try", (("do", call(make(("do", ("next", name("g")))))),), "e", ()))
        self.assertEqual(thrown(program, 50), ["w"])

    def test_what_is_thrown_once_more_counts_twice(self):
        program = top(("try", (("try", (("throw", word("w")),), "e", (("throw", name("e")),)),), "e", (("throw", ONE),)))
        self.assertEqual(thrown(program, 0), ["w", "w", 1])

    def test_what_is_worked_out(self):
        ones = [call(ONE), work("add", NOTHING, ONE), work("quo", ONE, integer(0)), work("mul", integer(10 ** 16), integer(10 ** 15)),
                ("field", cell(), "a"), ("next", call(maker())), ("next", ONE)]
        program = top(*[("try", (("do", one),), "e", ()) for one in ones], ("store", ONE, "a", ONE))
        self.assertEqual(thrown(program, 50), ["kind", "kind", "nought", "great", "lack", "over", "kind", "lack"])

    def test_all_kinds_of_values(self):
        ones = [integer(-2), word("w"), NOTHING, cell(), make(), call(maker())]
        program = top(*[("try", (("throw", one),), "e", ()) for one in ones])
        self.assertEqual(thrown(program, 1), [-2, "w", "nothing", "cell", "function", "generator"])

    def test_ticks_that_lack_are_not_thrown(self):
        self.assertEqual(thrown(top(("while", ONE, ())), 5), [])
        self.assertEqual(thrown(top(), 5), [])


class TestProgramsByChance(unittest.TestCase):
    def test_as_the_other_reader_tells(self):
        for seed in range(150):
            modules, main, program = made(seed)
            for ticks in [4, 200]:
                other = Reader(modules, main, ticks)
                self.assertEqual([thrown(program, ticks), deepest(program, ticks)], [other.thrown, other.deepest])
                for home in modules:
                    for own in ["ee", "fe", "ge"]:
                        try:
                            found = watched(program, ticks, home, own)
                        except Loose:
                            continue
                        self.assertEqual(found, [told for where, which, told in other.given if (where, which) == (home, own)])


if __name__ == "__main__":
    unittest.main()
