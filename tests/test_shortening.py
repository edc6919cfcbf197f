import unittest

from reachkept.errors import Unlike
from reachkept.judging import do_same, is_parting, parting, word_at
from reachkept.shortening import (constants, copies, idle_steps, lean, may_drop, may_put, may_swap, swapped, with_step,
                                  without)
from reachkept.traces import is_trace
from tests.test_judging import Chance, ends_alike

STEPS = ((0, "store", 0, "f", 1), (1, "load", 2, 0, "f"), (2, "alike", 1, 2, True), (3, "tell", 2))
TRACE = (3, (0, 1, 2), STEPS)
OTHER = (3, (0, 1, 2), ((0, "store", 0, "f", 1), (1, "store", 2, "f", 0), (2, "load", 2, 0, "f"), (2, "tell", 2)))


def all_kept(size, *steps):
    return (size, tuple(range(size)), tuple(steps))


class TestTheExample(unittest.TestCase):
    def test_of_the_document(self):
        self.assertEqual([word_at(TRACE, index) for index in range(4)], ["open", "always", "always", "always"])
        shorter = (3, (0, 1, 2), (STEPS[0], (1, "move", 2, 1), (3, "tell", 1)))
        self.assertEqual([copies(TRACE, 1), idle_steps(TRACE), do_same(TRACE, shorter)], [[1], [2], True])
        self.assertEqual([copies(OTHER, 2), word_at(OTHER, 1), lean(TRACE)[2] == (STEPS[0], STEPS[1], STEPS[3])],
                         [[], "open", True])


class TestChanges(unittest.TestCase):
    def test_without_a_step(self):
        self.assertEqual(without(TRACE, 0), (3, (0, 1, 2), STEPS[1:]))
        self.assertEqual(without(TRACE, 3), (3, (0, 1, 2), STEPS[:3]))
        self.assertEqual(without(all_kept(1, (0, "tell", 0)), 0), all_kept(1))

    def test_with_another_step(self):
        step = (9, "cell", 1)
        self.assertEqual(with_step(TRACE, 1, step), (3, (0, 1, 2), (STEPS[0], step, STEPS[2], STEPS[3])))
        self.assertEqual(with_step(TRACE, 3, step), (3, (0, 1, 2), STEPS[:3] + (step,)))

    def test_exits_are_exchanged_with_their_steps(self):
        self.assertEqual(swapped(TRACE, 0), (3, (0, 1, 2), (STEPS[1], STEPS[0], STEPS[2], STEPS[3])))
        self.assertEqual(swapped(TRACE, 2), (3, (0, 1, 2), (STEPS[0], STEPS[1], STEPS[3], STEPS[2])))
        self.assertEqual(swapped(all_kept(1, (4, "so", 0, True), (5, "tell", 0)), 0),
                         all_kept(1, (5, "tell", 0), (4, "so", 0, True)))

    def test_the_trace_stays_as_it_is(self):
        for change in (lambda: without(TRACE, 1), lambda: swapped(TRACE, 1), lambda: lean(TRACE)):
            change()
            self.assertEqual(TRACE, (3, (0, 1, 2), STEPS))


class TestWhatMayBeDone(unittest.TestCase):
    def test_dropping(self):
        trace = all_kept(2, (0, "move", 0, 0), (1, "keep", 0, 1), (2, "so", 0, True), (3, "kind", 0, False),
                         (4, "cell", 1), (5, "alike", 1, 0, False), (6, "tell", 0))
        self.assertEqual([may_drop(trace, index) for index in range(7)], [True, False, True, True, False, True, False])
        self.assertEqual(idle_steps(trace), [0, 2, 3, 5])

    def test_answers_are_truths(self):
        for answer in (may_drop(TRACE, 2), may_put(TRACE, 2, (1, "move", 2, 2)), may_swap(TRACE, 0)):
            self.assertIs(type(answer), bool)

    def test_what_is_not_kept_may_be_dropped(self):
        steps = ((0, "keep", 0, 1), (1, "is", 1, 0), (2, "cell", 1))
        self.assertEqual(idle_steps((2, (0, 1), steps)), [1])
        self.assertEqual(idle_steps((2, (0,), steps)), [1, 2])
        self.assertEqual(idle_steps((2, (), steps)), [0, 1, 2])

    def test_a_load_that_may_be_left_is_not_dropped(self):
        self.assertEqual(idle_steps((2, (), ((0, "load", 0, 1, "f"),))), [])
        self.assertEqual(idle_steps((2, (), ((0, "load", 0, 1, "f"), (1, "load", 0, 1, "g")))), [])
        self.assertEqual(idle_steps((2, (), ((0, "load", 0, 1, "f"), (0, "load", 0, 1, "f")))), [0, 1])

    def test_steps_that_may_be_dropped_one_by_one_but_not_together(self):
        trace = all_kept(2, (0, "so", 0, True), (0, "so", 0, True), (1, "tell", 0))
        self.assertEqual(idle_steps(trace), [0, 1])
        self.assertEqual(len(lean(trace)[2]), 2)
        self.assertEqual(idle_steps(lean(trace)), [])
        self.assertEqual(idle_steps(all_kept(1, (0, "so", 0, True), (1, "so", 0, True))), [1])

    def test_dropping_one_makes_another_idle(self):
        trace = (2, (0,), ((0, "cell", 1), (1, "store", 1, "f", 0), (2, "tell", 0)))
        self.assertEqual(idle_steps(trace), [1])
        self.assertEqual(lean(trace), (2, (0,), ((2, "tell", 0),)))
        trace = (2, (0,), ((0, "tell", 0), (1, "is", 1, 0), (2, "alike", 1, 1, True), (3, "so", 1, True), (4, "keep", 1, 0)))
        self.assertEqual(idle_steps(trace), [2, 4])
        self.assertEqual(lean(trace), (2, (0,), ((0, "tell", 0), (1, "is", 1, 0), (3, "so", 1, True))))
        trace = all_kept(2, (0, "move", 1, 0), (1, "kind", 1, True), (2, "kind", 0, True), (3, "keep", 1, 0))
        self.assertEqual(idle_steps(trace), [2])

    def test_lean_of_what_has_no_idle_step(self):
        for trace in ((2, (), ()), all_kept(1, (0, "tell", 0)), all_kept(1, (3, "so", 0, True), (4, "tell", 0))):
            self.assertEqual(lean(trace), trace)

    def test_putting(self):
        self.assertTrue(may_put(TRACE, 1, (7, "move", 2, 1)))
        self.assertFalse(may_put(TRACE, 1, (1, "move", 2, 0)))
        self.assertFalse(may_put(TRACE, 0, (1, "store", 0, "f", 1)))
        self.assertTrue(may_put(all_kept(2, (0, "work", 1, "add", 0, 0)), 0, (0, "work", 1, "add", 0, 0)))
        self.assertFalse(may_put(all_kept(2, (0, "work", 1, "add", 0, 0)), 0, (0, "work", 1, "mul", 0, 0)))

    def test_works_are_exchanged_with_nothing_that_they_need(self):
        # Whatever works mean: add need not be the same from both sides.
        self.assertFalse(may_put(all_kept(3, (0, "work", 2, "add", 0, 1)), 0, (0, "work", 2, "add", 1, 0)))

    def test_swapping(self):
        self.assertTrue(may_swap(all_kept(4, (0, "move", 0, 1), (1, "move", 2, 3)), 0))
        self.assertFalse(may_swap(all_kept(3, (0, "move", 0, 1), (1, "move", 1, 2)), 0))
        self.assertFalse(may_swap(all_kept(2, (0, "tell", 0), (1, "tell", 1)), 0))
        self.assertTrue(may_swap(all_kept(1, (0, "tell", 0), (1, "tell", 0)), 0))
        self.assertFalse(may_swap(all_kept(2, (0, "so", 0, True), (1, "so", 1, True)), 0))
        self.assertTrue(may_swap(all_kept(2, (5, "so", 0, True), (5, "so", 1, True)), 0))
        self.assertFalse(may_swap(all_kept(2, (0, "store", 0, "f", 1), (1, "store", 0, "f", 0)), 0))

    def test_swapping_the_last_but_one(self):
        trace = all_kept(3, (0, "tell", 0), (1, "keep", 1, 4), (2, "keep", 2, 5))
        self.assertEqual([may_swap(trace, index) for index in range(2)], [True, True])


class TestCopiesAndConstants(unittest.TestCase):
    def test_copies_of_loads(self):
        trace = all_kept(4, (0, "store", 0, "f", 1), (1, "store", 2, "g", 3), (2, "load", 3, 0, "f"))
        self.assertEqual(copies(trace, 2), [1])
        trace = all_kept(4, (0, "alike", 1, 2, True), (0, "store", 0, "f", 1), (2, "load", 3, 0, "f"))
        self.assertEqual(copies(trace, 2), [1, 2])
        self.assertEqual(copies(all_kept(2, (0, "load", 1, 0, "f")), 0), [])

    def test_copies_of_works_and_cells(self):
        trace = all_kept(3, (0, "work", 0, "add", 1, 1), (1, "work", 2, "add", 1, 1))
        self.assertEqual([copies(trace, 0), copies(trace, 1)], [[], [0]])
        self.assertEqual(copies((3, (2,), ((0, "cell", 0), (1, "cell", 1), (2, "is", 2, 1))), 1), [0])
        self.assertEqual(copies(all_kept(3, (0, "cell", 0), (1, "cell", 1)), 1), [])

    def test_copies_leave_out_the_own_register(self):
        self.assertEqual(copies(all_kept(2, (0, "move", 0, 0)), 0), [])
        self.assertEqual(copies(all_kept(2, (0, "move", 0, 1)), 0), [1])
        self.assertEqual(copies(all_kept(3, (0, "same", 0, 1, 2), (1, "same", 1, 1, 2)), 1), [0])

    def test_what_nobody_sees_may_be_anything(self):
        self.assertEqual(copies((3, (2,), ((0, "keep", 0, 5),)), 0), [1, 2])
        self.assertEqual(constants((3, (2,), ((0, "keep", 0, 5),)), 0), [(0,), (1,), (5,)])

    def test_constants_of_truths(self):
        trace = all_kept(3, (0, "kind", 0, True), (1, "is", 1, 0), (2, "same", 2, 1, 0))
        self.assertEqual([constants(trace, 1), constants(trace, 2)], [[(1,)], [(0,)]])
        self.assertEqual(constants(all_kept(2, (0, "is", 1, 0)), 0), [])
        self.assertEqual(constants(all_kept(2, (0, "so", 0, False), (1, "move", 1, 0)), 1), [])

    def test_constants_of_works_loads_and_cells(self):
        trace = all_kept(2, (0, "keep", 0, 2), (1, "work", 1, "add", 0, 0))
        self.assertEqual(constants(trace, 1), [])
        trace = all_kept(3, (0, "keep", 1, "w"), (1, "store", 0, "f", 1), (2, "load", 2, 0, "f"))
        self.assertEqual(constants(trace, 2), [("w",)])
        self.assertEqual(constants(all_kept(1, (0, "cell", 0)), 0), [])

    def test_constants_are_ordered_and_come_once(self):
        steps = tuple((index, "keep", 0, value) for index, value in
                      enumerate([None, "b", 7, "a", 7, None, -3, "b", 1]))
        trace = (1, (), steps)
        self.assertEqual(constants(trace, 0), [(-3,), (0,), (1,), (7,), ("a",), ("b",), (None,)])
        self.assertEqual(constants((1, (0,), steps), 8), [(1,)])
        self.assertEqual(constants((1, (0,), steps[:1]), 0), [(None,)])
        self.assertEqual(constants((1, (0,), steps[:2]), 1), [("b",)])

    def test_lists_are_new(self):
        first = constants(TRACE, 1)
        first.append(5)
        self.assertEqual(constants(TRACE, 1), [])
        copies(TRACE, 1).append(5)
        self.assertEqual(copies(TRACE, 1), [1])
        idle_steps(TRACE).append(7)
        self.assertEqual(idle_steps(TRACE), [2])


class TestByChance(unittest.TestCase):
    def test_lean_and_idle_steps(self):
        for seed in range(250):
            chance = Chance(seed)
            trace = chance.trace(3, 6)
            shorter = lean(trace)
            self.assertTrue(is_trace(shorter) and do_same(trace, shorter))
            self.assertEqual(idle_steps(shorter), [])
            rest = list(trace[2])
            self.assertTrue(all(step in rest for step in shorter[2]))
            for _ in range(4):
                self.assertTrue(ends_alike(trace, shorter, chance.start(3)), (seed, trace))
            for index in range(len(trace[2])):
                start = parting(trace, without(trace, index))
                self.assertEqual(start is None, index in idle_steps(trace))
                if start is not None:
                    self.assertTrue(is_parting(trace, without(trace, index), start))

    def test_copies_and_constants(self):
        many = 0
        for seed in range(120):
            chance = Chance(seed)
            trace = chance.trace(3, 6)
            for index, step in enumerate(trace[2]):
                if step[1] in ("keep", "move", "work", "same", "is", "cell", "load"):
                    for place in copies(trace, index):
                        many += 1
                        other = with_step(trace, index, (step[0], "move", step[2], place))
                        for _ in range(2):
                            self.assertTrue(ends_alike(trace, other, chance.start(3)))
                    for value, in constants(trace, index):
                        many += 1
                        other = with_step(trace, index, (step[0], "keep", step[2], value))
                        for _ in range(2):
                            self.assertTrue(ends_alike(trace, other, chance.start(3)))
        self.assertGreater(many, 100)

    def test_unlike_is_never_raised(self):
        for seed in range(50):
            trace = Chance(seed).trace(2, 4)
            try:
                lean(trace)
                idle_steps(trace)
            except Unlike:
                self.fail("these have the same size and kept")


if __name__ == "__main__":
    unittest.main()
