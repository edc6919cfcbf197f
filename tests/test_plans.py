import itertools
import unittest

from reachkept.plans import is_less, is_plan, plans
from tests.things import STRANGE, changed

LOTS = [(), ("back",), ("back", "new"), ("back", "new", "old"), ("back", "old"), ("new",), ("new", "old"), ("old",)]
HEADS = list(itertools.product(["fields", "whole"], ["again", "kept", "once"], ["black", "grey", "white"]))


class TestIsPlan(unittest.TestCase):
    def test_plans(self):
        for head in HEADS:
            for lot in LOTS:
                for plan in [(*head, lot, (), ()), (*head, (), lot, ()), (*head, (), ("old",), lot)]:
                    self.assertIs(is_plan(plan), True)

    def test_what_is_none(self):
        good = ("whole", "kept", "black", ("new",), (), ("back", "old"))
        self.assertIs(is_plan(good), True)
        for at, things in [(0, ["field", "Whole", "kept", "", None, True, 0, ["whole"], ("whole",), "whol", "w"]),
                           (1, ["twice", "", None, "whole", ["kept"], False]), (2, ["red", "", "old", None, 1, ["grey"]])]:
            for thing in things:
                self.assertIs(is_plan(good[:at] + (thing,) + good[at + 1:]), False)
        for at in (3, 4, 5):
            for lot in [("old", "new"), ("new", "back"), ("new", "new"), ("old", "back"), ("back", "old", "new"), ["new"], [], {},
                        "new", "", None, 0, ("red",), ("",), (None,), (["new"],), (("new",),), ("new", True), ("New",), (0,)]:
                self.assertIs(is_plan(good[:at] + (lot,) + good[at + 1:]), False)
        for thing in [good[:5], good + ((),), list(good), {}, "whole"] + STRANGE:
            self.assertIs(is_plan(thing), False)

    def test_any_value_is_taken(self):
        for thing in changed(("fields", "again", "white", ("back", "new"), ("old",), ())):
            self.assertIs(type(is_plan(thing)), bool)


class TestIsLess(unittest.TestCase):
    def test_lots(self):
        base = ("whole", "kept", "black")
        for one in LOTS:
            for other in LOTS:
                expected = set(one) <= set(other)
                for front, rest in [((), ((), ())), (((),), (("old",),)), ((("new",), ()), ())]:
                    self.assertIs(is_less((*base, *front, one, *rest), (*base, *front, other, *rest)), expected)
        self.assertIs(is_less((*base, (), ("new",), ()), (*base, ("old",), (), ())), False)
        self.assertIs(is_less((*base, (), ("new",), ("old",)), (*base, ("old",), ("new", "old"), ("old",))), True)

    def test_heads(self):
        for one in HEADS:
            for other in HEADS:
                self.assertIs(is_less((*one, (), (), ()), (*other, ("back", "new", "old"), (), ())), one == other)


class TestPlans(unittest.TestCase):
    def test_all_of_them(self):
        for head in HEADS:
            found = plans(*head)
            self.assertEqual(found, sorted((*head, *lots) for lots in itertools.product(LOTS, repeat=3)))
            self.assertEqual(len(found), 512)
            self.assertTrue(all(is_plan(plan) for plan in found))

    def test_new_lists(self):
        plans("whole", "kept", "black").clear()
        self.assertEqual(len(plans("whole", "kept", "black")), 512)


if __name__ == "__main__":
    unittest.main()
