import unittest

from reachkept.checking import faults
from reachkept.codes import is_codes
from reachkept.compiling import compiled, variable
from reachkept.errors import Loose, NoModule
from reachkept.machines import Machine
from reachkept.programs import Program
from reachkept.reading import read
from reachkept.runs import ran
from reachkept.watching import deepest, watched
from reachkept.frames import chain, is_state, told_of
from tests.made import made
from tests.oracle import Reader
from tests.test_reading import ONE, count, let, make, maker, tells, top
from tests.things import NOTHING, STRANGE, call, cell, deep, integer, name, word, work


class Compiling(unittest.TestCase):
    def alike(self, program, *many):
        """A machine tells what reading tells, by so many ticks."""
        codes = compiled(program)
        self.assertIs(is_codes(codes), True)
        self.assertEqual(faults(codes), [])
        for ticks in many or [0, 1, 2, 3, 5, 8, 13, 100]:
            self.assertEqual(ran(program, ticks), read(program, ticks), ticks)
        return read(program, (many or [100])[-1])


class TestCodes(Compiling):
    def test_one_module_of_the_order_for_each_that_is_run(self):
        lib = ((), ("n",), (let("n", ONE),))
        program = Program({"lib": lib, "mid": ((("lib", "n", "m"),), (), ()), "other": lib,
                           "top": ((("lib", "n", "m"), ("mid", "no", "o"))[:1], (), (let("f", make()),))}, "top")
        codes = compiled(program)
        self.assertEqual(program.order(), ["lib", "top"])
        self.assertEqual([len(codes[1]), faults(codes)], [2, []])
        self.assertEqual([code[2] for code in codes[0]].count("module"), 2)
        self.assertEqual([codes[0][index][2] for index in codes[1]], ["module", "module"])

    def test_empty_bodies(self):
        self.alike(top())
        self.alike(top(("if", ONE, (), ()), ("while", integer(0), ()), ("try", (), "e", ()), ("do", call(make())),
                       ("do", call(maker()))))

    def test_statements_behind_a_back_a_throw_or_a_yield(self):
        body = (("back", ONE), ("tell", ONE), ("while", ONE, (("back", ONE),)))
        self.alike(top(("tell", call(make(*body))), ("tell", call(make(("if", ONE, (("back", integer(5)),), body))))))
        self.alike(top(("try", (("throw", ONE), ("tell", ONE), ("try", (), "e", ())), "e", (("throw", ONE), ("tell", ONE)))))
        self.alike(top(*tells(*[("next", call(maker(("yield", ONE), *body)))] * 2)))

    def test_a_cell_alone(self):
        self.alike(top(let("a", cell())))
        self.alike(top(("do", cell())))
        self.alike(top(let("a", cell(p=cell(q=cell())))))

    def test_deep_programs(self):
        self.alike(top(("tell", deep(400))))
        one = ("tell", ONE)
        for _ in range(300):
            one = ("if", ONE, (one,), ())
        self.alike(top(one))
        self.alike(top(*[let("a", ONE)] * 500, ("tell", name("a"))))

    def test_equal_programs_give_equal_codes(self):
        for seed in range(5):
            _, _, program = made(seed)
            self.assertEqual(compiled(program), compiled(made(seed)[2]))


class TestAsReading(Compiling):
    def test_the_example_of_watching(self):
        counting = maker(("while", name("n"), (("yield", name("n")), ("put", "n", work("sub", name("n"), ONE)))),
                         givens=["n"])
        some = (let("g", call(counting, integer(2))),) + tells(*[("next", name("g"))] * 3)
        program = Program({"top": ((), ("g",), some)}, "top")
        self.assertEqual(self.alike(program), ([2, 1], ("thrown", "over"), 93))

    def test_values_are_taken_from_left_to_right(self):
        change = let("f", make(("put", "a", work("add", name("a"), ONE)), ("back", integer(10))))
        for one in [work("sub", name("a"), call(name("f"))), work("sub", call(name("f")), name("a")),
                    work("sub", name("a"), work("sub", name("a"), call(name("f")))),
                    work("sub", name("a"), ("field", cell(p=call(name("f"))), "p")),
                    ("field", cell(p=name("a"), q=call(name("f"))), "p"),
                    call(make(("back", name("x")), givens="xy"), name("a"), call(name("f"))),
                    work("sub", name("a"), ("next", call(maker(("yield", call(name("f"))))))),
                    call(name("a"), call(make(("put", "a", name("f")), ("back", NOTHING)))),
                    call(name("g"), call(make(("put", "g", NOTHING))), ONE), call(name("g"), ONE, call(make(("put", "g", NOTHING))))]:
            self.alike(top(change, let("a", integer(3)), let("g", make(("back", name("y")), givens="xy")), ("tell", one),
                           ("tell", name("a"))))
        store = ("store", name("c"), "p", call(make(("put", "c", cell(p=integer(9))), ("back", ONE))))
        result = self.alike(top(let("c", cell()), let("b", name("c")), store, ("tell", ("field", name("b"), "p")),
                                ("tell", ("field", name("c"), "p"))))
        self.assertEqual(result[0], [1, 9])

    def test_names_that_are_put_by_what_makes_them(self):
        program = top(let("a", ONE), let("a", cell(p=name("a"), q=name("a"))), ("tell", ("field", name("a"), "q")),
                      let("a", cell(p=cell(p=name("a")))), let("a", ("field", ("field", name("a"), "p"), "p")),
                      ("tell", ("field", name("a"), "p")), ("put", "a", work("same", name("a"), name("a"))),
                      ("tell", name("a")))
        self.assertEqual(self.alike(program)[0], [1, 1, 1])
        program = top(let("a", ONE), ("try", (("put", "a", work("add", name("a"), work("quo", ONE, integer(0)))),), "e", ()),
                      ("tell", name("a")), ("tell", name("e")))
        self.assertEqual(self.alike(program)[0], [1, "nought"])
        self.alike(top(let("a", ONE), let("a", call(make(("put", "a", integer(5)), ("back", work("add", name("a"), ONE))))),
                       ("tell", name("a"))))

    def test_nested_functions(self):
        inner = make(("put", "a", work("add", name("a"), name("b"))), ("back", make(("back", work("mul", name("a"), name("c"))))),
                     givens=["c"])
        outer = make(let("b", integer(5)), ("back", inner))
        program = top(let("a", ONE), let("f", call(call(outer), integer(7))), ("tell", call(name("f"))),
                      ("put", "a", integer(3)), ("tell", call(name("f"))))
        self.assertEqual(self.alike(program)[0], [42, 21])

    def test_generators(self):
        steps = maker(let("a", ONE), ("try", (("yield", name("a")), ("throw", word("w"))), "e", (("yield", name("e")),)),
                      ("back", integer(7)))
        program = top(let("g", call(steps)), let("h", call(steps)), *tells(*[("next", name(own)) for own in "ghghg"]))
        self.assertEqual(self.alike(program)[:2], ([1, 1, "w", "w"], ("thrown", "over")))
        program = top(let("g", call(maker(("yield", ("next", name("g")))))), ("tell", ("next", name("g"))))
        self.assertEqual(self.alike(program)[:2], ([], ("thrown", "over")))
        through = maker(("try", (("yield", ("next", name("h"))),), "e", (("yield", name("e")), ("throw", integer(8)))))
        program = top(let("h", call(maker(("throw", integer(4))))), let("g", call(through)), ("tell", ("next", name("g"))),
                      ("try", (("do", ("next", name("g"))),), "e", (("tell", name("e")),)), ("tell", ("next", name("g"))))
        self.assertEqual(self.alike(program)[:2], ([4, 8], ("thrown", "over")))

    def test_thirty_open_calls_and_one_more(self):
        down = let("f", make(("if", name("n"), (("back", call(name("f"), work("sub", name("n"), ONE))),), ()),
                             ("back", word("end")), givens=["n"]))
        for many, expected in [(29, ["end"]), (30, ["deep"]), (28, ["end"])]:
            program = top(down, ("try", (("tell", call(name("f"), integer(many))),), "e", (("tell", name("e")),)))
            self.assertEqual(self.alike(program, 200)[0], expected)
        steps = let("f", make(("if", name("n"), (("back", call(name("f"), work("sub", name("n"), ONE))),), ()),
                              ("back", ("next", name("g"))), givens=["n"]))
        for many in (28, 29, 30):
            for how in ("next", "call"):
                inner = ("yield", call(make())) if how == "call" else ("yield", ONE)
                program = top(let("g", call(maker(inner, inner))), steps, ("try", (("tell", call(name("f"), integer(many))),),
                                                                       "e", (("tell", name("e")),)),
                              ("tell", ("next", name("g"))))
                self.alike(program, 200, 31, 32, 33)

    def test_names_ahead_of_their_let_and_of_imports(self):
        lib = ((), ("f", "n"), (let("f", make(("put", "n", work("add", name("n"), ONE)), ("back", name("n")))),
                                let("n", integer(1))))
        mid = ((("lib", "f", "f"),), ("k",), (("tell", name("k")), ("tell", call(name("f"))), let("k", make(("back", name("f"))))))
        main = ((("mid", "k", "k"), ("lib", "n", "n"), ("lib", "f", "g")), (),
                (("tell", name("n")), ("tell", call(name("g"))), ("tell", name("n")),
                 ("tell", work("same", name("g"), call(name("k")))), ("tell", work("add", name("n"), call(name("g")))),
                 ("tell", call(make(("back", name("n")))))))
        program = Program({"lib": lib, "mid": mid, "top": main}, "top")
        self.assertEqual(self.alike(program)[0], ["nothing", 2, 2, 3, 3, 1, 7, 4])

    def test_throws_out_of_modules(self):
        lib = ((), ("n",), (let("n", ONE), ("tell", name("n")), ("throw", cell())))
        program = Program({"lib": lib, "top": ((("lib", "n", "n"),), (), (("tell", name("n")),))}, "top")
        self.assertEqual(self.alike(program)[:2], ([1], ("thrown", "cell")))

    def test_ticks(self):
        program = top(let("n", integer(4)), count("n"), ("while", work("less", name("n"), integer(9)), (count("n"), count("n"))),
                      ("do", call(make(("while", name("n"), (("put", "n", work("sub", name("n"), ONE)),))))), ("tell", name("n")))
        self.assertEqual(self.alike(program, *range(20))[0], [0])


class TestByChance(Compiling):
    def test_programs_by_chance(self):
        for seed in range(1000, 1200):
            modules, main, program = made(seed)
            codes = compiled(program)
            self.assertEqual(faults(codes), [])
            for ticks in [0, 4, 30, 300]:
                other = Reader(modules, main, ticks)
                self.assertEqual(ran(program, ticks), (other.told, other.end, other.left), (seed, ticks))

    def test_states_and_chains(self):
        for seed in range(1000, 1040):
            _, _, program = made(seed)
            codes = compiled(program)
            for ticks in [6, 60]:
                machine = Machine(codes, ticks)
                most = 0
                while machine.end() is None:
                    machine.step()
                    heap = machine.heap()
                    most = max(most, len(chain(heap)) - 1)
                    if machine.done() < 60 or machine.end() is not None:
                        self.assertIs(is_state(codes, heap), True)
                self.assertEqual(most, deepest(program, ticks))


class TestVariable(unittest.TestCase):
    def program(self):
        lib = ((), ("n", "up"), (let("n", integer(4)), let("up", make(("put", "n", work("add", name("n"), ONE))))))
        main = ((("lib", "up", "up"), ("lib", "n", "m")), (),
                (let("n", ONE), ("do", call(name("up"))), ("try", (("throw", name("m")),), "e", ()),
                 let("f", make(let("o", ONE))), ("if", integer(0), (let("z", ONE),), ())))
        return Program({"lib": lib, "top": main, "other": ((), (), (let("n", ONE),))}, "top")

    def test_values_stand_there(self):
        program = self.program()
        codes = compiled(program)
        machine = Machine(codes, 9)
        machine.run()
        heap = machine.heap()
        for module, own, expected in [("lib", "n", 5), ("lib", "up", "function"), ("top", "n", 1), ("top", "e", 5),
                                      ("top", "f", "function"), ("top", "z", "nothing")]:
            frame = heap.get(0, 1 + program.order().index(module))[1]
            self.assertEqual(told_of(heap, heap.get(frame, variable(program, codes, module, own))), expected)

    def test_one_for_each(self):
        program = self.program()
        codes = compiled(program)
        for module, names in [("lib", ["n", "up"]), ("top", ["e", "f", "n", "z"])]:
            registers = [variable(program, codes, module, own) for own in names]
            self.assertEqual(len(set(registers)), len(names))
            size = codes[0][codes[1][program.order().index(module)]][1]
            self.assertTrue(all(type(register) is int and 0 <= register < size for register in registers))

    def test_values_one_behind_another(self):
        for seed in range(40):
            _, _, program = made(seed)
            codes = compiled(program)
            at = len(program.order()) - 1
            place = variable(program, codes, "top", "ee")
            machine, values = Machine(codes, 40), []
            while machine.end() is None:
                machine.step()
                frame = machine.heap().get(0, 1 + at)
                if frame is not None:
                    values.append(told_of(machine.heap(), machine.heap().get(frame[1], place)))
            changes = [one for one, last in zip(values, ["nothing"] + values) if one != last]
            expected = watched(program, 40, "top", "ee")
            expected = [one for one, last in zip(expected, ["nothing"] + expected) if one != last]
            # Other values that are told alike, such as two cells, are seen once here.
            self.assertEqual(changes, expected, seed)

    def test_errors(self):
        program = self.program()
        codes = compiled(program)
        for module in ["other", "no"] + STRANGE:
            with self.assertRaises(NoModule) as caught:
                variable(program, codes, module, "no")
            self.assertIs(caught.exception.name, module)
        for own in ["m", "up", "o", "no"] + STRANGE:
            with self.assertRaises(Loose) as caught:
                variable(program, codes, "top", own)
            self.assertEqual(caught.exception.home, "top")
            self.assertIs(caught.exception.name, own)


if __name__ == "__main__":
    unittest.main()
