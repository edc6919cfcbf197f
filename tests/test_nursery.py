import itertools
import random
import unittest

from reachkept.errors import NoStep
from reachkept.heaps import Heap
from reachkept.nursery import Nursery, is_young_loss, is_young_plan, keeps_young, young_loss
from tests.test_courses import at, made
from tests.things import STRANGE, changed

TRUTHS = (True, False)
ALL = list(itertools.product((1, 2, 3), TRUTHS, TRUTHS, TRUTHS))
FULL = (2, True, True, True)


def state(nursery):
    heap = nursery.heap()
    return [{number: heap.fields(number) for number in heap.numbers()}, nursery.ages(), nursery.remembered(), nursery.lost(), nursery.steps()]


class Other:
    """A second nursery, on plain dicts and sets."""

    def __init__(self, heap, roots, plan):
        self.cells = {number: heap.fields(number) for number in heap.numbers()}
        self.made, self.roots, self.plan = max(self.cells) + 1, roots, plan
        self.ages, self.known, self.lost = {}, set(), []

    def held(self, numbers):
        return {value[1] for number in numbers for value in self.cells[number].values() if type(value) is tuple}

    def closed(self, numbers, within):
        found = set(numbers) & set(within)
        while not self.held(found) & set(within) <= found:
            found |= self.held(found) & set(within)
        return found

    def do(self, step):
        if step[0] == "small":
            age, _, grown, kept = self.plan
            met = self.closed(self.held(set(self.roots) | self.known), self.ages)
            reached = self.closed(self.roots, self.cells)
            freed = set(self.ages) - met
            self.lost = sorted(freed & reached)
            self.cells = {number: fields for number, fields in self.cells.items() if number not in freed}
            ages = {number: self.ages[number] + 1 for number in met}
            self.ages = {number: many for number, many in ages.items() if many < age}
            self.known = {number for number in self.known if kept and self.held([number]) & set(self.ages)}
            self.known |= {number for number, many in ages.items() if grown and many == age and self.held([number]) & set(self.ages)}
            return
        value = step[-1]
        if step[0] == "fresh":
            value = at(self.made)
            self.cells[self.made], self.ages[self.made] = {}, 0
            self.made += 1
        self.cells[step[1]][step[2]] = value
        if self.plan[1] and step[1] not in self.ages and type(value) is tuple and value[1] in self.ages:
            self.known.add(step[1])


class Nurseries(unittest.TestCase):
    def nursery(self, plan, *steps, cells=({"a": at(1)}, {}), roots=(0,)):
        nursery = Nursery(made(*cells), roots, plan)
        for step in steps:
            self.assertIsNone(nursery.do(step))
        self.assertEqual(nursery.steps(), list(steps))
        return nursery

    def refuses(self, nursery, *steps):
        for step in steps:
            ahead = state(nursery)
            with self.assertRaises(NoStep):
                nursery.do(step)
            self.assertEqual(state(nursery), ahead)


class TestSteps(Nurseries):
    def test_the_example_of_the_document(self):
        nursery = self.nursery((2, True, True, False), ("fresh", 0, "x"), ("small",), cells=({}, {"a": at(0)}), roots=(1,))
        self.assertEqual([nursery.ages(), nursery.remembered(), nursery.do(("small",)), nursery.lost(), keeps_young((2, True, True, True)),
                          keeps_young((1, True, False, False))], [{2: 1}, [], None, [2], True, True])

    def test_all_cells_are_old_at_first(self):
        nursery = self.nursery(FULL)
        self.assertEqual([nursery.ages(), nursery.remembered(), nursery.lost(), nursery.steps()], [{}, [], [], []])
        nursery.do(("small",))
        self.assertEqual([nursery.heap().numbers(), nursery.ages()], [[0, 1], {}])

    def test_remembered_cells(self):
        nursery = self.nursery(FULL, ("fresh", 1, "b"), ("fresh", 2, "b"), ("put", 0, "b", at(1)), ("put", 0, "c", 5))
        # Roots are remembered like others, young cells never.
        self.assertEqual([nursery.ages(), nursery.remembered()], [{2: 0, 3: 0}, [1]])
        nursery.do(("put", 0, "d", at(3)))
        self.assertEqual(nursery.remembered(), [0, 1])
        nursery.do(("put", 0, "d", None))
        nursery.do(("put", 1, "b", at(0)))
        self.assertEqual(nursery.remembered(), [0, 1])
        self.assertEqual(self.nursery((2, False, True, True), ("fresh", 1, "b"), ("put", 0, "d", at(2))).remembered(), [])

    def test_ages(self):
        for age in (1, 2, 3):
            nursery = self.nursery((age, True, True, True), ("fresh", 0, "x"))
            for many in range(1, 5):
                nursery.do(("small",))
                self.assertEqual(nursery.ages(), {2: many} if many < age else {})
            self.assertEqual(nursery.heap().numbers(), [0, 1, 2])

    def test_those_that_are_not_met_are_freed(self):
        nursery = self.nursery(FULL, ("fresh", 0, "x"), ("fresh", 2, "x"), ("fresh", 3, "x"), ("put", 2, "x", at(4)), ("small",))
        self.assertEqual([nursery.heap().numbers(), nursery.ages(), nursery.lost()], [[0, 1, 2, 4], {2: 1, 4: 1}, []])
        nursery.do(("put", 0, "x", None))
        nursery.do(("small",))
        self.assertEqual([nursery.heap().numbers(), nursery.lost()], [[0, 1], []])
        nursery.do(("fresh", 0, "x"))
        self.assertEqual(nursery.heap().numbers(), [0, 1, 5])

    def test_old_cells_are_not_freed_and_lead_to_young_ones_if_remembered(self):
        # The cell 1 is not reached any more, but remembered, so that its young one stays.
        nursery = self.nursery(FULL, ("fresh", 1, "x"), ("put", 0, "a", None), ("small",))
        self.assertEqual([nursery.heap().numbers(), nursery.lost(), nursery.remembered()], [[0, 1, 2], [], [1]])
        nursery.do(("small",))
        self.assertEqual([nursery.ages(), nursery.remembered()], [{}, []])

    def test_kept(self):
        steps = [("fresh", 1, "x"), ("fresh", 0, "x"), ("put", 0, "x", None), ("small",)]
        self.assertEqual(self.nursery(FULL, *steps).remembered(), [1])
        self.assertEqual(self.nursery((2, True, True, False), *steps).remembered(), [])
        self.assertEqual(self.nursery((1, True, True, True), *steps).remembered(), [])

    def test_grown(self):
        steps = [("fresh", 0, "x"), ("small",), ("fresh", 2, "y"), ("small",)]
        for kept in TRUTHS:
            nursery = self.nursery((2, True, True, kept), *steps)
            self.assertEqual([nursery.ages(), nursery.remembered()], [{3: 1}, [2]])
            nursery = self.nursery((2, True, False, kept), *steps)
            self.assertEqual([nursery.ages(), nursery.remembered()], [{3: 1}, []])
            nursery.do(("small",))
            self.assertEqual([nursery.lost(), nursery.heap().numbers()], [[3], [0, 1, 2]])

    def test_without_puts(self):
        nursery = self.nursery((2, False, True, True), ("fresh", 0, "x"), ("fresh", 2, "y"), ("fresh", 1, "x"), ("small",))
        self.assertEqual([nursery.lost(), nursery.heap().numbers()], [[4], [0, 1, 2, 3]])

    def test_all_is_refused_when_a_cell_is_lost(self):
        nursery = self.nursery((1, False, True, True), ("fresh", 1, "x"), ("small",))
        self.assertEqual([nursery.lost(), nursery.copied().lost()], [[2], [2]])
        self.refuses(nursery.copied(), ("small",))
        self.refuses(nursery, ("small",), ("put", 0, "a", 0), ("fresh", 0, "x"), None)

    def test_steps_that_are_none(self):
        nursery = self.nursery(FULL, ("fresh", 0, "x"), cells=({"a": at(1)}, {}, {"a": at(3)}, {}, {0: 1}), roots=(0, 4))
        self.refuses(nursery, *STRANGE, ["small"], ("small", 0), ("small", None), "small", ("put", 0, "a"), ("put", 0, "a", 0, 0),
                     ["put", 0, "a", 0], ("fresh", 0), ("fresh", 0, "a", 0), ("put", 2, "a", 0), ("put", 0, "a", at(3)), ("fresh", 3, "a"),
                     ("put", 9, "a", 0), ("put", False, "a", 0), ("put", 0, True, 0), ("put", 0, 0, 0), ("put", 4, "a", 0), ("put", 4, True, 0),
                     ("put", 0, "a", True), ("put", 0, "a", at(True)), ("put", 0, "a", at(9)), ("put", 0, "let", 0), ("put", 0, "a", "let"),
                     ("begin",), ("end",), ("scan", 0), ("fresh", 4, "a"), ("fresh", [], "a"), ("put", {}, [], ()))
        nursery.do(("put", 4, -3, at(5)))

    def test_copies_and_new_things(self):
        heap = made({"a": at(1)}, {})
        nursery = Nursery(heap, (0,), FULL)
        nursery.do(("fresh", 1, "x"))
        self.assertEqual(heap.numbers(), [0, 1])
        ahead = state(nursery)
        other = nursery.copied()
        self.assertEqual([type(other), state(other)], [Nursery, ahead])
        for step in [("fresh", 0, "y"), ("small",), ("put", 1, "x", 1), ("small",)]:
            other.do(step)
        nursery.ages().clear()
        nursery.remembered().append(0)
        nursery.lost().append(0)
        nursery.steps().clear()
        nursery.heap().put(0, "a", 7)
        self.assertEqual(state(nursery), ahead)
        nursery.do(("put", 0, "z", at(2)))
        self.assertEqual(other.ages(), {})

    def test_as_the_other_nursery(self):
        chance = random.Random(75)
        for number in range(400):
            cells = [{field: chance.choice([0, at(chance.randrange(3)), at(chance.randrange(3))]) for field in "ab" if chance.random() < 0.6}
                     for _ in range(3)]
            plan = ALL[number % len(ALL)]
            nursery, other = Nursery(made(*cells), (0,), plan), Other(made(*cells), (0,), plan)
            for _ in range(20):
                kept = nursery.heap().reached([at(0)])
                step = chance.choice([("small",), ("fresh", chance.choice(kept), chance.choice("ab")),
                                      ("put", chance.choice(kept), chance.choice("ab"), chance.choice([0] + [at(one) for one in kept]))])
                nursery.do(step)
                other.do(step)
                self.assertEqual(state(nursery)[:4], [{number: other.cells[number] for number in sorted(other.cells)}, other.ages,
                                                      sorted(other.known), other.lost])
                self.assertEqual(list(nursery.ages()), sorted(nursery.ages()))
                if nursery.lost():
                    self.assertIs(keeps_young(plan), False, plan)
                    break


class TestPlans(unittest.TestCase):
    def test_young_plans(self):
        for plan in ALL:
            self.assertIs(is_young_plan(plan), True)
        for thing in STRANGE + [(0, True, True, True), (4, True, True, True), (True, True, True, True), (2, 1, True, True), (2, True, 0, True),
                                (2, True, True, None), [2, True, True, True], (2, True, True), (2, True, True, True, True), (2, "a", True, True),
                                ("2", True, True, True), (-1, True, True, True), (None, True, True, True), ([2], True, True, True)]:
            self.assertIs(is_young_plan(thing), False, thing)
        for thing in changed((2, True, False, True)):
            self.assertIs(type(is_young_plan(thing)), bool)

    def test_keeps(self):
        self.assertEqual([plan for plan in ALL if keeps_young(plan)],
                         [(1, True, True, True), (1, True, True, False), (1, True, False, True), (1, True, False, False),
                          (2, True, True, True), (3, True, True, True)])
        for plan in ALL:
            self.assertIs(type(keeps_young(plan)), bool)

    def test_losses(self):
        for plan in ALL:
            shown = young_loss(plan)
            self.assertIs(keeps_young(plan), shown is None)
            if shown is not None:
                heap, roots, steps = shown
                self.assertEqual([type(shown), type(heap), type(roots), type(steps)], [tuple, Heap, tuple, list])
                self.assertLessEqual(len(heap), 2)
                nursery = Nursery(heap, roots, plan)
                for step in steps:
                    self.assertEqual(nursery.lost(), [])
                    nursery.do(step)
                self.assertTrue(nursery.lost())
                self.assertIs(is_young_loss(plan, heap, roots, steps), True)
                self.assertEqual(young_loss(plan)[2], steps)

    def test_plans_that_keep_lose_nothing_by_chance(self):
        chance = random.Random(76)
        some = [plan for plan in ALL if keeps_young(plan)]
        for number in range(400):
            nursery = Nursery(made({"a": at(1)}, {"a": at(2)}, {"a": at(0)}), (0,), some[number % len(some)])
            for _ in range(50):
                kept = nursery.heap().reached([at(0)])
                nursery.do(chance.choice([("small",), ("fresh", chance.choice(kept), chance.choice("ab")), ("put", chance.choice(kept),
                                          chance.choice("ab"), at(chance.choice(kept))), ("put", chance.choice(kept), "a", None)]))
                self.assertEqual(nursery.lost(), [])

    def test_is_young_loss(self):
        plan, heap = (2, True, True, False), made({"a": at(1)}, {})
        steps = [("fresh", 1, "x"), ("small",), ("small",)]
        self.assertIs(is_young_loss(plan, heap, (0,), steps), True)
        for thing in STRANGE + [tuple(steps), steps[:2], steps + [("small",)], steps + [None], [None], [("small",)], steps[1:],
                                [("fresh", 0, "x")] + steps[1:], [["small"]], [("begin",)]]:
            self.assertIs(is_young_loss(plan, heap, (0,), thing), False, thing)
        self.assertIs(is_young_loss(FULL, heap, (0,), steps), False)
        self.assertEqual(heap, made({"a": at(1)}, {}))


if __name__ == "__main__":
    unittest.main()
