import random
import unittest

from reachkept.courses import Course, next_steps, played
from reachkept.heaps import Heap
from reachkept.keeping import hides, is_loss, keeps, least_plans, loss, mended
from reachkept.plans import is_less, plans
from tests.test_courses import BARE, HEADS, at, made
from tests.things import STRANGE

ALL = [plan for head in HEADS for plan in plans(*head)]


def shown_hidden(course, plan, roots):
    """Whether a black cell, or a scanned field of a grey one, holds a white cell now."""
    colours, heap = course.colours(), course.heap()
    for number, colour in colours.items():
        if colour == "white" or plan[1] == "again" and number in roots:
            continue
        for field, value in heap.fields(number).items():
            if type(value) is tuple and colours.get(value[1]) == "white":
                if colour == "black" or field not in course.open_fields(number):
                    return True
    return False


class Player:
    """Plays steps by chance on heaps by chance."""

    def __init__(self, seed):
        self.chance = random.Random(seed)

    def play(self, plan, many):
        """Return whether a cell was lost, and whether something scanned held a white cell on the way."""
        chance = self.chance
        size = chance.randint(1, 5)
        heap = made(*[{field: chance.choice([0, None, at(chance.randrange(size)), at(chance.randrange(size))])
                       for field in "abc" if chance.random() < 0.6} for _ in range(size)])
        roots = tuple(sorted(chance.sample(range(size), chance.randint(1, min(2, size)))))
        course = Course(heap, roots, plan)
        hidden = False
        for _ in range(many):
            kept = course.heap().reached([at(root) for root in roots])
            what = chance.random()
            step = ("put", chance.choice(kept), chance.choice("abc"), chance.choice([0, None] + [at(number) for number in kept]))
            if what < 0.45:
                step = chance.choice(next_steps(course))
            elif what < 0.5:
                step = ("fresh", chance.choice(kept), chance.choice("abc"))
            course.do(step)
            hidden = hidden or shown_hidden(course, plan, roots)
            if course.lost():
                return True, hidden
        return False, hidden


class TestExample(unittest.TestCase):
    def test_the_example_of_the_document(self):
        three = made({}, {"f": at(0)}, {"a": at(1)})
        steps = [("begin",), ("scan", 2), ("put", 2, "b", at(0)), ("put", 1, "f", None), ("scan", 1), ("end",)]
        self.assertEqual([keeps(BARE), is_loss(BARE, three, (2,), steps), len(least_plans("whole", "kept", "black"))], [False, True, 3])
        self.assertEqual(least_plans("whole", "once", "black"), [("whole", "once", "black", (), ("old",), ("old",))])


class TestKeepsAndLoss(unittest.TestCase):
    def test_all_plans(self):
        for plan in ALL:
            shown = loss(plan)
            self.assertIs(keeps(plan), shown is None, plan)
            if shown is None:
                continue
            self.assertIs(type(shown), tuple)
            heap, roots, steps = shown
            self.assertEqual([type(heap), type(roots), type(steps)], [Heap, tuple, list])
            self.assertLessEqual(len(heap), 4)
            self.assertTrue(roots and set(roots) <= set(heap.numbers()) and list(roots) == sorted(set(roots)))
            self.assertEqual(steps[-1], ("end",))
            course = played(heap, roots, plan, steps)
            self.assertTrue(course.lost())
            self.assertEqual(played(heap, roots, plan, steps[:-1]).lost(), [])
            self.assertIs(is_loss(plan, heap, roots, steps), True)

    def test_plans_that_keep_lose_nothing_by_chance(self):
        player = Player(72)
        keeping = [plan for plan in ALL if keeps(plan)]
        least = [plan for head in HEADS for plan in least_plans(*head)]
        for number in range(2500):
            plan = player.chance.choice(least if number % 2 else keeping)
            self.assertIs(player.play(plan, 50)[0], False, plan)

    def test_known_plans(self):
        for plan, expected in [
                (("whole", "kept", "black", ("new",), (), ()), True), (("whole", "kept", "black", ("back",), (), ()), True),
                (("whole", "kept", "black", ("old",), (), ()), False), (("whole", "kept", "black", (), ("old",), ("old",)), True),
                (("whole", "kept", "white", (), ("old",), ("old",)), False), (("whole", "kept", "black", (), ("old",), ()), False),
                (("whole", "kept", "black", ("old",), (), ("old",)), False), (("fields", "kept", "grey", ("new",), (), ("new",)), False),
                (("fields", "kept", "grey", ("new",), ("back",), ()), True), (("whole", "once", "black", ("new",), ("new",), ("new",)), False),
                (("whole", "once", "white", ("back", "new", "old"),) + (("back", "new", "old"),) * 2, False),
                (("fields", "again", "white", ("back",), ("new",), ()), True), (("whole", "again", "white", (), ("old",), ("old",)), False)]:
            self.assertIs(keeps(plan), expected, plan)

    def test_new_things(self):
        heap, roots, steps = loss(BARE)
        heap.free([0])
        steps.clear()
        again = loss(BARE)
        self.assertIs(is_loss(BARE, *again), True)
        self.assertEqual(again[0], loss(BARE)[0])


class TestIsLoss(unittest.TestCase):
    def test_what_is_none(self):
        three = made({}, {"f": at(0)}, {"a": at(1)})
        steps = [("begin",), ("scan", 2), ("put", 2, "b", at(0)), ("put", 1, "f", None), ("scan", 1), ("end",)]
        self.assertIs(is_loss(BARE, three, (2,), steps), True)
        for thing in STRANGE + [tuple(steps), steps[:-1], steps + [("begin",)], steps[1:], steps + [None], [("begin",)], [None], [[]],
                                steps[:2] + steps[3:], {index: step for index, step in enumerate(steps)}, steps[:-1] + [("end", 0)],
                                [list(step) for step in steps]]:
            self.assertIs(is_loss(BARE, three, (2,), thing), False, thing)
        self.assertIs(is_loss(BARE, three, (0, 2), steps), False)
        self.assertIs(is_loss(("whole", "kept", "black", ("new",), (), ()), three, (2,), steps), False)
        self.assertEqual(three, made({}, {"f": at(0)}, {"a": at(1)}))

    def test_heaps_of_any_size(self):
        many = made(*[{"a": at(number + 1)} for number in range(20)], {})
        steps = [("begin",)] + [("scan", number) for number in range(19)] + [("put", 0, "b", at(20)), ("put", 19, "a", None), ("scan", 19), ("end",)]
        self.assertIs(is_loss(BARE, many, (0,), steps), True)

    def test_a_second_round(self):
        heap = made({"a": at(1)}, {"a": at(2)}, {})
        first = [("begin",), ("scan", 0), ("scan", 1), ("scan", 2), ("end",), ("put", 0, "b", at(1)), ("begin",)]
        steps = first + [("scan", 0), ("put", 0, "b", at(2)), ("put", 1, "a", 4), ("scan", 1), ("end",)]
        self.assertIs(is_loss(BARE, heap, (0,), steps), True)


class TestHides(unittest.TestCase):
    def test_plans_that_hide_nothing(self):
        player = Player(73)
        some = [plan for plan in ALL if not hides(plan)]
        for _ in range(1200):
            plan = player.chance.choice(some)
            self.assertIs(player.play(plan, 50)[1], False, plan)

    def test_plans_that_hide(self):
        heap = made({"a": at(1), "b": at(2)}, {"a": 0, "f": at(3)}, {}, {})
        for plan in ALL:
            found = False
            for steps in ([("put", 0, "x", at(3))], ["black", ("put", 2, "x", at(3))], [("scan", 1, "a"), ("put", 1, "a", at(3))]):
                course = Course(heap, (0,), plan)
                course.do(("begin",))
                ahead = ([0] if plan[1] == "kept" else []) + ([2] if steps[0] == "black" else [])
                for number in ahead:
                    for field in course.open_fields(number) if plan[0] == "fields" else []:
                        course.do(("scan", number, field))
                    course.do(("scan", number))
                steps = [step for step in steps if step != "black" and (step[0] != "scan" or plan[0] == "fields")]
                for step in steps:
                    course.do(step)
                found = found or shown_hidden(course, plan, (0,))
            self.assertIs(hides(plan), found, plan)

    def test_known_plans(self):
        for plan, expected in [
                (BARE, True), (("whole", "kept", "black", ("new",), (), ()), False), (("whole", "kept", "black", (), ("old",), ("old",)), True),
                (("whole", "once", "black", ("new",), ("new",), ("new",)), True), (("whole", "again", "black", ("back",), (), ()), False),
                (("fields", "again", "black", ("back",), (), ()), True), (("fields", "kept", "white", ("back",), ("new",), ()), False)]:
            self.assertIs(hides(plan), expected, plan)


class TestLeastAndMended(unittest.TestCase):
    def test_by_going_through_all_of_them(self):
        for head in HEADS:
            keeping = [plan for plan in plans(*head) if keeps(plan)]
            least = [plan for plan in keeping if not any(other != plan and is_less(other, plan) for other in keeping)]
            self.assertEqual(least_plans(*head), sorted(least))

    def test_how_many(self):
        self.assertEqual({head: len(least_plans(*head)) for head in HEADS}, {
            (scan, roots, fresh): {"whole": 2, "fields": 4}[scan] * (roots != "once") + (fresh != "white")
            for scan, roots, fresh in HEADS})

    def test_mended_plans(self):
        chance = random.Random(74)
        for plan in chance.sample(ALL, 150):
            keeping = [other for other in plans(*plan[:3]) if keeps(other) and is_less(plan, other)]
            least = [one for one in keeping if not any(other != one and is_less(other, one) for other in keeping)]
            self.assertEqual(mended(plan), sorted(least), plan)

    def test_known_ones(self):
        self.assertEqual(mended(BARE), least_plans("whole", "kept", "black"))
        good = ("whole", "kept", "black", ("new",), ("new",), ("new",))
        self.assertEqual(mended(good), [good])
        self.assertEqual(mended(("whole", "once", "white", (), (), ())), [])
        self.assertEqual(mended(("whole", "kept", "grey", (), ("old",), ("new",))), [
            ("whole", "kept", "grey", (), ("old",), ("new", "old")), ("whole", "kept", "grey", ("back",), ("old",), ("new",)),
            ("whole", "kept", "grey", ("new",), ("old",), ("new",))])

    def test_new_lists(self):
        least_plans("whole", "kept", "black").clear()
        mended(BARE).clear()
        self.assertEqual([len(least_plans("whole", "kept", "black")), len(mended(BARE))], [3, 3])


if __name__ == "__main__":
    unittest.main()
