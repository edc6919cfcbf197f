import unittest

from reachkept.errors import Fixed, Loose, Misplaced, Missing, NoExport, NoModule, Round, Wrong
from reachkept.heaps import Heap
from reachkept.programs import Program
from tests.things import STRANGE, changed, integer, name

ONE = integer(1)
EMPTY = ((), (), ())
LIB = ((), ("a", "b"), (("let", "a", ONE), ("try", (), "b", ())))


def lets(*names):
    return tuple(("let", own, ONE) for own in names)


def imports(*rows):
    return (tuple(tuple(row.split()) for row in rows), (), ())


class Raising(unittest.TestCase):
    def fails(self, error, fields, modules, main="top"):
        with self.assertRaises(error) as caught:
            Program(modules, main)
        self.assertEqual(vars(caught.exception), fields)


class TestWrong(Raising):
    def test_modules(self):
        for modules in [{}, {"let": EMPTY}, {"top": ()}, {"top": [(), (), ()]}, {"top": EMPTY, 1: EMPTY},
                        {"top": EMPTY, True: EMPTY}, {"top": EMPTY, None: EMPTY}, {"top": EMPTY, "lib": None},
                        {"top": EMPTY, ("a",): EMPTY}, {"abcdefghi": EMPTY}, {"top": ((), (), (("do", 1),))},
                        {"top": Program({"top": EMPTY}, "top")}]:
            self.fails(Wrong, {"place": 0}, modules)
        for thing in STRANGE:
            self.fails(Wrong, {"place": 0}, thing)
            self.fails(Wrong, {"place": 0}, thing, thing if type(thing) is not str else "top")
        for module in changed(LIB):
            if type(module) is list:
                self.fails(Wrong, {"place": 0}, {"top": module})

    def test_main(self):
        for main in STRANGE:
            if main not in ("a",):
                self.fails(Wrong, {"place": 1}, {"top": EMPTY}, main)
                self.fails(Wrong, {"place": 0}, {}, main)

    def test_wrong_comes_ahead_of_all(self):
        self.fails(Wrong, {"place": 1}, {"top": imports("no a a")}, "let")
        self.fails(Wrong, {"place": 0}, {"top": imports("top a a"), "z": None})


class TestMissing(Raising):
    def test_main(self):
        self.fails(Missing, {"name": "top"}, {"lib": EMPTY})

    def test_the_least(self):
        self.fails(Missing, {"name": "b"}, {"top": imports("c a a", "b a x"), "lib": imports("d a a")})
        self.fails(Missing, {"name": "a"}, {"top": imports("c a a"), "lib": imports("a a a")})
        self.fails(Missing, {"name": "lib"}, {"bar": imports("lib a a")})

    def test_it_comes_ahead_of_round(self):
        self.fails(Missing, {"name": "no"}, {"top": imports("top a a", "no a b")})


class TestRound(Raising):
    def test_rings(self):
        self.fails(Round, {"name": "top"}, {"top": imports("top a a")})
        self.fails(Round, {"name": "lib"}, {"top": imports("lib a a"), "lib": imports("top a a")})
        self.fails(Round, {"name": "b"}, {"top": imports("c a a"), "a": imports("b a a"), "b": imports("c a a"),
                                          "c": imports("d a a"), "d": imports("b a a")})

    def test_rings_to_which_the_main_one_does_not_lead(self):
        self.fails(Round, {"name": "x"}, {"top": EMPTY, "y": imports("x a a"), "x": imports("y a a")})

    def test_a_module_that_leads_into_a_ring_is_none(self):
        self.fails(Round, {"name": "c"}, {"top": EMPTY, "b": imports("c a a"), "c": imports("c a a")})

    def test_two_ways_to_a_module_are_no_ring(self):
        Program({"top": imports("b a a", "c b b"), "b": ((("lib", "a", "x"),), ("a",), lets("a")),
                 "c": ((("lib", "b", "x"),), ("b",), lets("b")), "lib": LIB}, "top")

    def test_it_comes_ahead_of_no_export(self):
        self.fails(Round, {"name": "z"}, {"top": ((), ("a",), ()), "z": imports("z a a")})


class TestNoExport(Raising):
    def test_exports_that_are_no_own_names(self):
        self.fails(NoExport, {"home": "top", "name": "a"}, {"top": ((), ("a",), ())})
        self.fails(NoExport, {"home": "top", "name": "b"}, {"top": ((), ("a", "b", "c"), lets("a"))})
        inner = (("do", ("make", ("a",), lets("a"))),)
        self.fails(NoExport, {"home": "top", "name": "a"}, {"top": ((), ("a",), inner)})
        self.fails(NoExport, {"home": "top", "name": "x"}, {"top": ((("lib", "a", "x"),), ("x",), ()), "lib": LIB})
        self.fails(NoExport, {"home": "top", "name": "a"}, {"top": ((), ("a",), (("put", "a", ONE),))})

    def test_lets_and_tries_within_others_may_be_exported(self):
        body = (("if", ONE, lets("a"), ()), ("try", (("while", ONE, lets("b")),), "c", ()))
        Program({"top": ((), ("a", "b", "c"), body)}, "top")

    def test_imports_of_what_is_not_exported(self):
        self.fails(NoExport, {"home": "lib", "name": "c"}, {"top": imports("lib a a", "lib c c"), "lib": LIB})
        self.fails(NoExport, {"home": "lib", "name": "a"}, {"top": imports("lib a a"), "lib": ((), (), lets("a"))})

    def test_the_least_of_both(self):
        self.fails(NoExport, {"home": "lib", "name": "c"},
                   {"top": imports("lib d d", "lib c c"), "lib": LIB, "mid": ((), ("a",), ())})
        self.fails(NoExport, {"home": "bar", "name": "z"},
                   {"top": imports("lib c c"), "lib": LIB, "bar": ((), ("z",), ())})
        self.fails(NoExport, {"home": "lib", "name": "c"},
                   {"top": imports("lib c c"), "lib": ((), ("a", "d"), lets("a"))})

    def test_it_comes_ahead_of_loose(self):
        self.fails(NoExport, {"home": "z", "name": "a"}, {"top": ((), (), (("tell", name("q")),)), "z": ((), ("a",), ())})


class TestLoose(Raising):
    def test_the_least(self):
        body = (("put", "d", name("c")), ("do", ("make", ("a",), (("tell", name("b")), ("tell", name("a"))))))
        self.fails(Loose, {"home": "top", "name": "b"}, {"top": ((), (), body)})
        self.fails(Loose, {"home": "bar", "name": "z"}, {"top": ((), (), body), "bar": ((), (), (("tell", name("z")),))})

    def test_imports_are_known_and_modules_are_not_around_others(self):
        use = (("tell", name("x")), ("do", ("make", (), (("tell", name("x")),))))
        Program({"top": ((("lib", "a", "x"),), (), use), "lib": LIB}, "top")
        self.fails(Loose, {"home": "top", "name": "a"},
                   {"top": ((("lib", "a", "x"),), (), (("tell", name("a")),)), "lib": LIB})
        self.fails(Loose, {"home": "top", "name": "lib"},
                   {"top": ((("lib", "a", "x"),), (), (("tell", name("lib")),)), "lib": LIB})

    def test_it_comes_ahead_of_fixed(self):
        self.fails(Loose, {"home": "z", "name": "q"},
                   {"top": ((("lib", "a", "x"),), (), lets("x")), "lib": LIB, "z": ((), (), (("tell", name("q")),))})


class TestFixed(Raising):
    def fixed(self, body, own="x"):
        self.fails(Fixed, {"home": "top", "name": own},
                   {"top": ((("lib", "a", "x"), ("lib", "a", "w")), (), body), "lib": LIB})

    def test_lets_tries_and_puts(self):
        self.fixed(lets("x"))
        self.fixed((("try", (), "x", ()),))
        self.fixed((("put", "x", ONE),))
        self.fixed((("while", ONE, lets("x")),))
        self.fixed((("if", ONE, (), (("put", "x", ONE),)),))
        self.fixed(lets("x", "w"), "w")

    def test_puts_in_makes_where_the_name_belongs_to_the_module(self):
        self.fixed((("do", ("make", ("y",), (("put", "x", ONE),))),))
        self.fixed((("do", ("make", ("w",), (("do", ("maker", (), (("put", "x", ONE),))),))),))

    def test_names_of_makes_are_free(self):
        for body in [(("do", ("make", ("x",), (("put", "x", ONE),))),),
                     (("do", ("make", (), (("put", "x", ONE), ("let", "x", ONE)))),),
                     (("do", ("make", (), (("try", (), "x", ()),))),),
                     (("do", ("make", ("x",), (("do", ("maker", (), (("put", "x", ONE),))),))),),
                     (("tell", name("x")), ("store", name("x"), "x", ONE))]:
            Program({"top": ((("lib", "a", "x"),), (), body), "lib": LIB}, "top")

    def test_the_least(self):
        self.fails(Fixed, {"home": "bar", "name": "x"},
                   {"top": ((("lib", "a", "b"),), (), lets("b")), "lib": LIB,
                    "bar": ((("lib", "a", "x"), ("lib", "a", "y")), (), lets("y", "x"))})

    def test_it_comes_ahead_of_misplaced(self):
        self.fails(Fixed, {"home": "top", "name": "x"},
                   {"top": ((("lib", "a", "x"),), (), lets("x")), "lib": LIB, "a": ((), (), (("back", ONE),))})


class TestMisplaced(Raising):
    def test_words(self):
        self.fails(Misplaced, {"home": "top", "word": "back"}, {"top": ((), (), (("yield", ONE), ("back", ONE)))})
        self.fails(Misplaced, {"home": "top", "word": "yield"}, {"top": ((), (), (("if", ONE, (("yield", ONE),), ()),))})
        self.fails(Misplaced, {"home": "top", "word": "yield"},
                   {"top": ((), (), (("do", ("make", (), (("back", ONE), ("yield", ONE)))),))})
        self.fails(Misplaced, {"home": "lib", "word": "yield"},
                   {"top": ((), (), (("back", ONE),)), "lib": ((), (), (("yield", ONE),))})

    def test_where_they_may_stand(self):
        Program({"top": ((), (), (("do", ("make", (), (("back", ONE),))),
                                  ("do", ("maker", (), (("back", ONE), ("yield", ONE))))))}, "top")


class TestProgram(unittest.TestCase):
    def program(self):
        def leading(*homes):
            rows = tuple((home, "a", "xyz"[index]) for index, home in enumerate(homes))
            return (rows, ("a",), lets("a"))
        modules = {"top": leading("c", "b"), "c": leading("lib"), "b": leading("d", "lib", "c"), "lib": leading(),
                   "d": leading(), "else": leading("top", "zoo"), "zoo": leading()}
        return modules, Program(modules, "top")

    def test_what_it_tells(self):
        modules, program = self.program()
        self.assertEqual(program.main(), "top")
        self.assertEqual(program.modules(), ["b", "c", "d", "else", "lib", "top", "zoo"])
        for own, module in modules.items():
            self.assertEqual(program.module(own), module)

    def test_order(self):
        modules, program = self.program()
        self.assertEqual(program.order(), ["lib", "c", "d", "b", "top"])
        self.assertEqual(Program(modules, "else").order(), ["lib", "c", "d", "b", "top", "zoo", "else"])
        self.assertEqual(Program(modules, "lib").order(), ["lib"])

    def test_order_follows_the_imports(self):
        for first, second in ["bc", "cb"]:
            program = Program({"b": LIB, "c": LIB, "top": imports(first + " a x", second + " b y", first + " b z")}, "top")
            self.assertEqual(program.order(), [first, second, "top"])

    def test_leads(self):
        program = self.program()[1]
        self.assertEqual([program.leads(own) for own in program.modules()],
                         [["c", "d", "lib"], ["lib"], [], ["b", "c", "d", "lib", "top", "zoo"], [],
                          ["b", "c", "d", "lib"], []])

    def test_no_module(self):
        program = self.program()[1]
        for thing in [*STRANGE, "toq", "topp"]:
            for asked in [program.module, program.leads]:
                with self.assertRaises(NoModule) as caught:
                    asked(thing)
                self.assertIs(caught.exception.name, thing)

    def test_what_is_handed_in_is_copied(self):
        modules, program = self.program()
        del modules["top"]
        modules["lib"] = EMPTY
        self.assertEqual(program, self.program()[1])
        program.modules().append("x")
        program.order().clear()
        program.leads("top").append("x")
        self.assertEqual(program, self.program()[1])
        self.assertEqual([program.order(), program.leads("c")], [["lib", "c", "d", "b", "top"], ["lib"]])

    def test_equal(self):
        modules, program = self.program()
        self.assertTrue(program == Program({own: modules[own] for own in sorted(modules)}, "top"))
        self.assertFalse(program != Program(dict(modules), "top"))
        self.assertFalse(program == Program(modules, "lib"))
        self.assertFalse(program == program.with_module("new", EMPTY))
        self.assertFalse(program == program.with_module("d", ((), ("a",), lets("a", "b"))))
        for thing in STRANGE + [modules]:
            self.assertIs(program == thing, False)
            self.assertIs(program != thing, True)

    def test_with_module(self):
        modules, program = self.program()
        other = program.with_module("d", LIB)
        self.assertEqual(other, Program({**modules, "d": LIB}, "top"))
        self.assertEqual(program, self.program()[1])
        more = program.with_module("new", EMPTY)
        self.assertEqual([more.modules(), more.main(), program.modules()],
                         [["b", "c", "d", "else", "lib", "new", "top", "zoo"], "top", sorted(modules)])

    def test_with_module_wrong(self):
        program = self.program()[1]
        for thing in STRANGE:
            if thing != "a":
                for module in [EMPTY, None, thing]:
                    with self.assertRaises(Wrong) as caught:
                        program.with_module(thing, module)
                    self.assertEqual(caught.exception.place, 0)
            with self.assertRaises(Wrong) as caught:
                program.with_module("new", thing)
            self.assertEqual(caught.exception.place, 1)

    def test_with_module_raises_what_a_program_raises(self):
        program = self.program()[1]
        for own, module, error, fields in [
                ("d", imports("no a a"), Missing, {"name": "no"}),
                ("d", imports("b a a"), Round, {"name": "b"}),
                ("d", EMPTY, NoExport, {"home": "d", "name": "a"}),
                ("d", ((), ("a",), lets("a") + (("tell", name("q")),)), Loose, {"home": "d", "name": "q"}),
                ("new", ((("lib", "a", "x"),), (), lets("x")), Fixed, {"home": "new", "name": "x"}),
                ("new", ((), (), (("back", ONE),)), Misplaced, {"home": "new", "word": "back"})]:
            with self.assertRaises(error) as caught:
                program.with_module(own, module)
            self.assertEqual(vars(caught.exception), fields)
        self.assertEqual(program, self.program()[1])

    def test_objects_are_no_arguments(self):
        with self.assertRaises(Wrong) as caught:
            Program({"top": EMPTY}, Heap())
        self.assertEqual(caught.exception.place, 1)


if __name__ == "__main__":
    unittest.main()
