import unittest

from reachkept.checking import faults, is_sound, open_tries, unmet
from reachkept.compiling import compiled
from tests.made import made

END = ("end",)


def module(*ops, size=2):
    return (0, size, "module", None, ops)


def make(*ops, size=2, outer=0, many=0):
    return (many, size, "make", outer, ops)


def maker(*ops, size=2, outer=0, many=0):
    return (many, size, "maker", outer, ops)


def codes(*some, order=(0,)):
    return (some, order)


class Checking(unittest.TestCase):
    def has(self, some, *expected):
        self.assertEqual(faults(some), list(expected))
        self.assertIs(is_sound(some), not expected)


class TestRegisters(Checking):
    def test_own_registers(self):
        for op in [("keep", 2, 0), ("move", 2, 0), ("move", 0, 2), ("work", 2, "add", 0, 0), ("work", 0, "add", 2, 0),
                   ("work", 0, "add", 0, 2), ("cell", 2), ("load", 2, 0, "f"), ("load", 0, 2, "f"),
                   ("store", 2, "f", 0), ("store", 0, "f", 2), ("call", 2, 0, ()), ("call", 0, 2, ()),
                   ("call", 0, 0, (2,)), ("call", 0, 0, (1, 0, 2)), ("next", 2, 0), ("next", 0, 2), ("is", 2, "cell", 0),
                   ("is", 0, "cell", 2), ("tell", 2), ("unless", 2, 1), ("throw", 2), ("tell", 10 ** 30)]:
            self.has(codes(module(op, END)), (0, 0, "register"))
            self.has(codes(module(op, END, size=3) if 10 ** 30 not in op else module(END)))
        self.has(codes(module(("try", 2, 2), ("untry",), END)), (0, 0, "register"))
        self.has(codes(module(END), make(("back", 2))), (1, 0, "register"))
        self.has(codes(module(END), maker(("yield", 2), END)), (1, 0, "register"))
        self.has(codes(module(END), make(("close", 2, 2), END), make(END, outer=1)), (1, 0, "register"))

    def test_ops_that_are_not_met_have_registers_too(self):
        self.has(codes(module(END, ("tell", 2), ("move", 5, 6))), (0, 1, "register"), (0, 2, "register"))

    def test_a_code_without_registers(self):
        self.has(codes(module(("tell", 0), END, size=0)), (0, 0, "register"))
        self.has(codes(module(END, size=0)))

    def test_registers_of_frames_further_out(self):
        inner = [make(("outer", 0, 1, 4), END, size=1, outer=1), make(("outer", 0, 2, 4), END, size=1, outer=1)]
        for many, expected in [(5, []), (4, [(2, 0, "register")])]:
            self.has(codes(module(END, size=9), make(END, size=many), inner[0]), *expected)
            self.has(codes(module(END, size=many), make(END, size=9), inner[1]), *expected)
        for many, expected in [(5, []), (4, [(2, 0, "register")])]:
            self.has(codes(module(END, size=9), make(END, size=many), make(("into", 1, 4, 0), END, size=1, outer=1)), *expected)
        self.has(codes(module(END, size=9), make(("outer", 2, 1, 0), ("into", 1, 0, 2), END)),
                 (1, 0, "register"), (1, 1, "register"))

    def test_no_register_is_too_great_for_a_frame_that_is_not_there(self):
        self.has(codes(module(("outer", 0, 1, 99), ("into", 1, 99, 0), END)), (0, 0, "code"), (0, 1, "code"))
        self.has(codes(module(("outer", 9, 1, 99), ("into", 1, 99, 9), END)),
                 (0, 0, "code"), (0, 0, "register"), (0, 1, "code"), (0, 1, "register"))

    def test_registers_of_modules(self):
        self.has(codes(module(END, size=3), module(("other", 0, 0, 2), END), order=(0, 1)))
        self.has(codes(module(END, size=3), module(("other", 0, 0, 3), END), order=(0, 1)), (1, 0, "register"))
        self.has(codes(module(END, size=3), module(("other", 2, 0, 0), END), order=(0, 1)), (1, 0, "register"))
        # A module that is not in the order has a frame's size all the same; a make is no module.
        self.has(codes(module(END, size=3), module(("other", 0, 0, 3), END), order=(1,)),
                 (1, 0, "code"), (1, 0, "register"))
        self.has(codes(module(END), make(END, size=1), module(("other", 0, 1, 9), END), order=(0, 2)), (2, 0, "code"))
        for named in (1, 7):
            self.has(codes(module(("other", 0, named, 9), END)), (0, 0, "code"))


class TestPlaces(Checking):
    def test_places(self):
        for op in [("jump", 2), ("unless", 0, 2), ("jump", 10 ** 20)]:
            self.has(codes(module(op, END)), (0, 0, "place"))
        self.has(codes(module(("try", 3, 0), ("untry",), END)), (0, 0, "place"))
        for at in (0, 1):
            self.has(codes(module(("jump", at), END)))

    def test_places_of_ops_that_are_not_met(self):
        self.has(codes(module(END, ("jump", 3), ("unless", 0, 9))), (0, 1, "place"), (0, 2, "place"))


class TestCodes(Checking):
    def test_close(self):
        self.has(codes(module(("close", 0, 1), END), make(END)))
        for close, others in [(("close", 0, 1), []), (("close", 0, 0), []), (("close", 0, 1), [module(END)]),
                              (("close", 0, 2), [make(END), make(END, outer=1)])]:
            self.has(codes(module(close, END), *others), (0, 0, "code"))

    def test_hops(self):
        inner = make(("outer", 0, 1, 0), ("outer", 0, 2, 0), ("outer", 0, 3, 0), ("into", 2, 0, 0), ("into", 3, 0, 0), END,
                     outer=1)
        self.has(codes(module(END), make(END), inner), (2, 2, "code"), (2, 4, "code"))

    def test_other(self):
        other = ("other", 0, 0, 0)
        self.has(codes(module(END), module(other, END), order=(0, 1)))
        self.has(codes(module(END), module(other, END), order=(1, 0)), (1, 0, "code"))
        self.has(codes(module(END), module(other, END), order=(0,)), (1, 0, "code"))
        self.has(codes(module(END), module(other, END), order=(1,)), (1, 0, "code"))
        self.has(codes(module(other, END)), (0, 0, "code"))
        for order, expected in [((0, 1), []), ((1, 0), [(3, 0, "code")])]:
            self.has(codes(module(END), module(END), make(END, outer=1), make(other, END, outer=2), order=order), *expected)
        # The code stands around no module: the way outwards ends at a code that is not ahead.
        self.has(codes(module(END), module(END), make(other, END, outer=2), order=(0, 1)), (2, 0, "code"))

    def test_yield_and_back(self):
        for some, expected in [
                (codes(module(("yield", 0), END)), [(0, 0, "code")]),
                (codes(module(END), make(("yield", 0), END)), [(1, 0, "code")]),
                (codes(module(END), maker(("yield", 0), END)), []), (codes(module(("back", 0))), [(0, 0, "code")]),
                (codes(module(END), make(("back", 0))), []), (codes(module(END), maker(("back", 0))), []),
                (codes(module(END, ("back", 0), ("yield", 0))), [(0, 1, "code"), (0, 2, "code")])]:
            self.has(some, *expected)

    def test_outers(self):
        for outer, expected in [(0, []), (1, [(1, 0, "code")]), (2, [(1, 0, "code")]), (9, [(1, 0, "code")])]:
            self.has(codes(module(END), make(END, outer=outer), make(END)), *expected)
            self.has(codes(module(END), maker(END, outer=outer), make(END)), *expected)

    def test_once_each(self):
        # Both the outer of the code and its op 0 are at fault.
        self.has(codes(module(END), make(("close", 9, 7), ("jump", 7), outer=1)),
                 (1, 0, "code"), (1, 0, "register"), (1, 1, "place"))


class TestRun(Checking):
    def test_ops_behind_which_there_is_none(self):
        for op in [("tell", 0), ("turn",), ("unless", 0, 0), ("untry",)]:
            self.has(codes(module(("jump", 1), op)), *sorted([(0, 1, "run")] + [(0, 1, "tries")] * (op == ("untry",))))
        self.has(codes(module(("try", 0, 0))), (0, 0, "run"))
        self.has(codes(module(END), maker(("yield", 0))), (1, 0, "run"))

    def test_ops_that_lead_nowhere(self):
        self.has(codes(module(END), make(("back", 0)), make(("throw", 0)), make(("jump", 0)), make(END)))

    def test_ops_that_are_not_met(self):
        self.has(codes(module(END, ("tell", 0))))
        self.has(codes(module(("jump", 0), ("tell", 0))))

    def test_a_place_beyond_is_no_fault_of_this_kind(self):
        self.has(codes(module(("jump", 1))), (0, 0, "place"))
        self.has(codes(module(("unless", 0, 2), ("jump", 0))), (0, 0, "place"))

    def test_the_example_of_the_document(self):
        twice = (1, 2, "make", 0, (("work", 1, "add", 0, 0), ("back", 1)))
        ops = (("close", 0, 1), ("keep", 1, 21), ("call", 2, 0, (1,)), ("tell", 2))
        self.has(((module(*ops, END, size=3), twice), (0,)))
        self.has(((module(*ops, size=3), twice), (0,)), (0, 3, "run"))


class TestTries(Checking):
    def test_lists(self):
        some = codes(module(("try", 6, 0), ("try", 4, 0), ("tell", 0), ("untry",), ("tell", 0), ("untry",), END))
        self.has(some)
        self.assertEqual([open_tries(some, 0, op) for op in range(7)], [[], [0], [0, 1], [0, 1], [0], [0], []])

    def test_untry_without_a_try(self):
        self.has(codes(module(("untry",), ("untry",), END)), (0, 0, "tries"), (0, 1, "tries"))
        self.has(codes(module(END, ("untry",), END)))

    def test_another_list_than_the_first_one(self):
        # Op 2 is met from op 1 within the try, and from the try itself without it, which comes later.
        self.has(codes(module(("try", 2, 0), ("tell", 0), ("untry",), END)), (0, 2, "tries"))
        self.has(codes(module(("try", 1, 0), ("untry",), END)), (0, 1, "tries"))

    def test_the_first_one_is_kept_and_handed_on(self):
        # The way by the place of the try is shorter: op 3 is met without the try first.
        some = codes(module(("try", 3, 0), ("tell", 0), ("tell", 0), ("tell", 0), ("untry",), END))
        self.has(some, (0, 3, "tries"), (0, 4, "tries"))

    def test_levels_ascending(self):
        # Ops 2 and 4 come to op 5 by as many steps, and op 2 is ahead of op 4; op 6 has an empty list.
        ops = [("unless", 0, 3), ("try", 6, 0), ("jump", 5), ("jump", 4), ("jump", 5), ("jump", 6), END]
        self.has(codes(module(*ops)), (0, 5, "tries"), (0, 6, "tries"))
        ops = [("unless", 0, 3), ("jump", 2), ("jump", 5), ("try", 6, 0), ("jump", 5), ("jump", 6), END]
        self.has(codes(module(*ops)), (0, 5, "tries"))

    def test_the_next_op_ahead_of_the_place(self):
        # The untry hands nothing on, so there is just the fault at the op to which two lists are handed.
        some = codes(module(("try", 1, 0), ("jump", 2), ("untry",), END))
        self.has(some, (0, 1, "tries"))

    def test_back_to_op_0(self):
        self.has(codes(module(("try", 1, 0), ("jump", 0))), (0, 0, "tries"), (0, 1, "tries"))
        self.has(codes(module(("turn",), ("try", 4, 0), ("untry",), ("jump", 0), END)))

    def test_tries_in_a_round(self):
        some = codes(module(("turn",), ("unless", 0, 6), ("try", 5, 0), ("untry",), ("jump", 0), ("jump", 0), END))
        self.has(some)
        self.assertEqual([open_tries(some, 0, op) for op in (0, 3, 5, 6)], [[], [2], [], []])

    def test_what_is_not_met(self):
        some = codes(module(("jump", 3), ("try", 2, 0), ("untry",), END), make(("back", 0), ("tell", 0)))
        self.has(some)
        self.assertEqual([open_tries(some, 0, op) for op in range(4)], [[], None, None, []])
        self.assertEqual([open_tries(some, 1, op) for op in range(2)], [[], None])
        self.assertEqual(unmet(some), [(0, 1), (0, 2), (1, 1)])

    def test_new_lists(self):
        some = codes(module(("try", 3, 0), ("tell", 0), ("untry",), END))
        open_tries(some, 0, 1).append(7)
        faults(some).append(7)
        unmet(some).append(7)
        self.assertEqual([open_tries(some, 0, 1), faults(some), unmet(some)], [[0], [], []])


class TestUnmet(Checking):
    def test_codes_with_faults(self):
        some = codes(module(("jump", 9), ("tell", 7)), make(("yield", 3), ("unless", 9, 3), ("back", 0), ("tell", 0), END))
        self.assertEqual(unmet(some), [(0, 1)])
        self.assertEqual(faults(some), [(0, 0, "place"), (0, 1, "register"), (1, 0, "code"), (1, 0, "register"),
                                        (1, 1, "register")])
        self.assertEqual(unmet(codes(module(("throw", 0), END, END), make(("end",), ("end",)))), [(0, 1), (0, 2), (1, 1)])

    def test_throw_does_not_lead_to_the_place_of_its_try(self):
        some = codes(module(("try", 2, 0), ("throw", 0), END))
        self.assertEqual([unmet(some), faults(some)], [[], []])


class TestProgramsByChance(Checking):
    def test_compiled_codes_are_sound(self):
        for seed in range(60):
            _, _, program = made(seed)
            self.has(compiled(program))


if __name__ == "__main__":
    unittest.main()
