import unittest

from reachkept.judging import do_same
from reachkept.traces import STEPS, gone, is_trace
from reachkept.weaving import joined, narrowed, parted_by, renamed
from tests.test_judging import Chance, ends_alike

ALL = ((0, "keep", 0, 5), (1, "move", 0, 1), (2, "work", 0, "add", 1, 2), (3, "same", 0, 1, 2), (4, "is", 0, 1),
       (5, "cell", 0), (6, "load", 0, 1, "f"), (7, "store", 0, "f", 1), (8, "tell", 2), (0, "so", 1, True),
       (1, "alike", 0, 2, False), (2, "kind", 2, True))


class TestJoined(unittest.TestCase):
    def test_one_behind_the_other(self):
        one, other = (2, (1,), ((0, "tell", 0),)), (2, (1,), ((1, "cell", 1), (2, "tell", 1)))
        self.assertEqual(joined(one, other), (2, (1,), ((0, "tell", 0), (1, "cell", 1), (2, "tell", 1))))
        self.assertEqual(joined(other, one), (2, (1,), ((1, "cell", 1), (2, "tell", 1), (0, "tell", 0))))

    def test_empty_ones(self):
        empty = (1, (), ())
        self.assertEqual(joined(empty, empty), empty)
        self.assertEqual(joined(empty, (1, (), ((0, "tell", 0),))), (1, (), ((0, "tell", 0),)))

    def test_it_goes_as_both_do(self):
        for seed in range(60):
            chance = Chance(seed)
            one, other = chance.trace(3, 3), chance.trace(3, 3)
            other = (3, one[1], other[2])
            start = chance.start(3)
            left, told, heap, values = gone(one, start)
            if left is None:
                second = gone(other, (heap, values, start[2]))
                left, told, heap, values = second[0], told + second[1], second[2], second[3]
            self.assertEqual(gone(joined(one, other), start), (left, told, heap, values))


class TestRenamed(unittest.TestCase):
    def test_all_steps(self):
        expected = ((0, "keep", 5, 5), (1, "move", 5, 0), (2, "work", 5, "add", 0, 1), (3, "same", 5, 0, 1),
                    (4, "is", 5, 0), (5, "cell", 5), (6, "load", 5, 0, "f"), (7, "store", 5, "f", 0), (8, "tell", 1),
                    (0, "so", 0, True), (1, "alike", 5, 1, False), (2, "kind", 1, True))
        self.assertEqual(renamed((3, (0, 1), ALL), [5, 0, 1]), (6, (0, 5), expected))

    def test_each_word_of_a_step_is_among_them(self):
        self.assertEqual({step[1] for step in ALL}, set(STEPS))

    def test_sizes(self):
        trace = (3, (), ())
        self.assertEqual(renamed(trace, [2, 1, 0]), (3, (), ()))
        self.assertEqual(renamed(trace, [0, 1, 3])[0], 4)
        self.assertEqual(renamed(trace, [9, 1, 3])[0], 10)
        self.assertEqual(renamed((0, (), ()), []), (0, (), ()))

    def test_registers_that_are_not_used_grow_too(self):
        self.assertEqual(renamed((2, (0,), ((0, "tell", 0),)), [0, 7]), (8, (0,), ((0, "tell", 0),)))

    def test_kept_ascending(self):
        self.assertEqual(renamed((3, (0, 2), ()), [2, 1, 0]), (3, (0, 2), ()))
        self.assertEqual(renamed((3, (0, 1), ()), [4, 2, 0]), (5, (2, 4), ()))

    def test_values_and_exits_are_no_registers(self):
        trace = (2, (), ((0, "keep", 0, 1), (1, "so", 0, True), (1, "so", 1, False)))
        self.assertEqual(renamed(trace, [1, 0]), (2, (), ((0, "keep", 1, 1), (1, "so", 1, True), (1, "so", 0, False))))

    def test_by_chance(self):
        for seed in range(80):
            chance = Chance(seed)
            one, other = chance.trace(3, 5), chance.trace(3, 5)
            other = chance.near(one) if chance.chance.random() < 0.7 else (3, one[1], other[2])
            registers = chance.chance.sample(range(5), 3)
            self.assertTrue(is_trace(renamed(one, registers)))
            self.assertEqual(do_same(one, other), do_same(renamed(one, registers), renamed(other, registers)))
            back = sorted(range(3), key=lambda place: registers[place])
            self.assertEqual(renamed(renamed((3, one[1], one[2]), [2, 0, 1]), [1, 2, 0]), one)
            self.assertEqual(len(back), 3)


class TestNarrowed(unittest.TestCase):
    def test_to_some_and_to_none(self):
        trace = (4, (0, 1, 3), ((0, "tell", 2),))
        self.assertEqual(narrowed(trace, (1, 3)), (4, (1, 3), ((0, "tell", 2),)))
        self.assertEqual(narrowed(trace, [3, 0]), (4, (0, 3), ((0, "tell", 2),)))
        self.assertEqual(narrowed(trace, ()), (4, (), ((0, "tell", 2),)))
        self.assertEqual(narrowed(trace, (0, 1, 3)), trace)

    def test_what_it_does_not_keep_is_not_kept_then(self):
        self.assertEqual(narrowed((3, (1,), ()), (0, 1, 2)), (3, (1,), ()))


class TestPartedBy(unittest.TestCase):
    def test_registers_that_differ(self):
        one = (3, (0, 1, 2), ((0, "keep", 0, 1), (1, "keep", 1, 2)))
        other = (3, (0, 1, 2), ((0, "keep", 0, 1), (1, "keep", 1, 3)))
        self.assertEqual(parted_by(one, other, (0, 1, 2)), [1])
        self.assertEqual(parted_by(one, other, (0, 2)), [])
        self.assertEqual(parted_by(one, one, (0, 1, 2)), [])
        self.assertEqual(parted_by(one, other, ()), [])

    def test_two_together_differ_but_none_alone(self):
        # The cells in both registers may be exchanged, unless both are seen at once beside a third one.
        one = (3, (0, 1), ((0, "cell", 0), (1, "cell", 1)))
        other = (3, (0, 1), ((0, "cell", 0), (1, "move", 1, 0)))
        self.assertFalse(do_same(one, other))
        self.assertEqual(parted_by(one, other, (0, 1)), [])

    def test_those_that_tell_leave_or_put_unlike_are_parted_by_each(self):
        base = (2, (0, 1), ())
        for step in ((0, "tell", 0), (0, "so", 0, True), (0, "store", 0, "f", 1), (0, "load", 0, 0, "f")):
            with self.subTest(step):
                self.assertEqual(parted_by(base, (2, (0, 1), (step,)), (0, 1)), [0, 1])
        one, other = (1, (0,), ((0, "so", 0, True),)), (1, (0,), ((1, "so", 0, True),))
        self.assertEqual(parted_by(one, other, (0,)), [0])

    def test_ascending_and_new(self):
        one, other = (3, (0, 1, 2), ()), (3, (0, 1, 2), ((0, "keep", 2, 0), (0, "keep", 0, 0)))
        found = parted_by(one, other, (0, 1, 2))
        self.assertEqual(found, [0, 2])
        found.append(1)
        self.assertEqual(parted_by(one, other, [2, 0]), [0, 2])

    def test_by_chance(self):
        for seed in range(80):
            chance = Chance(seed)
            one = chance.trace(3, 5)
            one = (3, (0, 1, 2), one[2])
            other = chance.near(one)
            found = parted_by(one, other, (0, 1, 2))
            if found:
                self.assertFalse(do_same(one, other))
            for place in (0, 1, 2):
                alone, beside = (3, (place,), one[2]), (3, (place,), other[2])
                self.assertEqual(place in found, not do_same(alone, beside))
                for _ in range(3):
                    if place not in found:
                        self.assertTrue(ends_alike(alone, beside, chance.start(3)))


if __name__ == "__main__":
    unittest.main()
