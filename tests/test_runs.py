import unittest

from reachkept.compiling import compiled
from reachkept.machines import Machine
from reachkept.reading import read
from reachkept.runs import first_unlike, ran, ran_codes, traffic
from tests.made import made
from tests.test_checking import END, codes, make, module
from tests.test_reading import ONE, let, tells, top
from tests.things import integer, name, work


def telling(*values):
    """Codes that tell these values."""
    return codes(module(*[op for value in values for op in (("keep", 0, value), ("tell", 0))], END))


class TestRan(unittest.TestCase):
    def test_as_reading(self):
        program = top(let("n", integer(3)), ("while", name("n"), (("tell", name("n")), ("put", "n", work("sub", name("n"), ONE)))))
        for ticks in range(6):
            self.assertEqual(ran(program, ticks), read(program, ticks))
            self.assertEqual(ran_codes(compiled(program), ticks), read(program, ticks))
        self.assertEqual(ran(program, 9), ([3, 2, 1], ("done",), 5))
        self.assertEqual(ran(top(("throw", integer(4))), 2), ([], ("thrown", 4), 2))

    def test_codes(self):
        self.assertEqual(ran_codes(telling(1, "w", None), 3), ([1, "w", "nothing"], ("done",), 3))
        self.assertEqual(ran_codes(codes(module(("tell", 0), ("turn",), ("jump", 0))), 2),
                         (["nothing"] * 3, ("ticks",), 0))

    def test_new_lists(self):
        some = telling(1)
        ran_codes(some, 3)[0].append(7)
        self.assertEqual(ran_codes(some, 3)[0], [1])


class TestFirstUnlike(unittest.TestCase):
    def test_things_told(self):
        for one, other, expected in [
                ([], [], None), ([1], [1], None), ([1], [2], 0), ([1, 2, 3], [1, 2, 4], 2), ([1, 2], [2, 1], 0), ([1], [], 0),
                ([], [1], 0), ([1, 2], [1], 1), ([1], [1, 2, 3], 1), ([1, "w", None], [1, "w", None], None),
                ([1, "w"], [1, "v"], 1), ([0], [None], 0), ([1, 2, 9], [1, 3], 1)]:
            self.assertEqual(first_unlike(telling(*one), telling(*other), 5), expected)

    def test_ends_and_ticks_do_not_count(self):
        round_ = codes(module(("keep", 0, 1), ("tell", 0), ("turn",), ("jump", 1)))
        self.assertEqual([first_unlike(round_, telling(1, 1, 1), ticks) for ticks in range(4)], [1, 2, None, 3])
        self.assertIsNone(first_unlike(telling(1), codes(module(("keep", 0, 1), ("tell", 0), ("throw", 0))), 0))


class TestTraffic(unittest.TestCase):
    def test_how_often(self):
        some = codes(module(("keep", 0, 3), ("keep", 1, 1), ("turn",), ("unless", 0, 6), ("work", 0, "sub", 0, 1), ("jump", 2), END))
        self.assertEqual(traffic(some, 9), {(0, 0): 1, (0, 1): 1, (0, 2): 4, (0, 3): 4, (0, 4): 3, (0, 5): 3, (0, 6): 1})
        self.assertEqual(traffic(some, 1), {(0, 0): 1, (0, 1): 1, (0, 2): 1, (0, 3): 1, (0, 4): 1, (0, 5): 1})

    def test_ops_that_are_never_done(self):
        some = codes(module(("jump", 2), ("tell", 0), ("close", 0, 1), ("throw", 0), END), make(END))
        self.assertEqual(traffic(some, 9), {(0, 0): 1, (0, 2): 1, (0, 3): 1})
        self.assertEqual(traffic(codes(module(("turn",), END)), 0), {})

    def test_calls_are_done_once(self):
        some = codes(module(("close", 0, 1), ("call", 1, 0, ()), ("call", 1, 0, ()), END), make(("call", 0, 0, ()), END))
        self.assertEqual(traffic(some, 9), {(0, 0): 1, (0, 1): 1, (1, 0): 1})

    def test_keys_ascend_and_numbers_are_those_of_a_machine(self):
        for seed in range(40):
            some = compiled(made(seed)[2])
            for ticks in [0, 3, 60]:
                found = traffic(some, ticks)
                self.assertEqual(list(found), sorted(found))
                machine = Machine(some, ticks)
                machine.run()
                self.assertEqual(sum(found.values()), machine.done())
                self.assertTrue(all(many > 0 for many in found.values()))


if __name__ == "__main__":
    unittest.main()
