import random
import unittest

from reachkept.errors import (Broken, Fixed, Loose, Losing, Misplaced, Missing, NoDeed, NoExport, NoModule, NoNumber, Nothing, ReachError,
                              Round, Stopped, Wrong)
from reachkept.houses import House
from reachkept.keeping import is_loss, keeps, loss
from reachkept.manners import ran_led
from reachkept.programs import Program
from reachkept.reading import read
from tests.loops import looping
from tests.test_led import PLANS
from tests.test_notation import SMALL, TWO
from tests.things import NOTHING, STRANGE, integer, name, word

FIRST = ("whole", "kept", "black", ("new",), (), ())
BARE = ("whole", "kept", "black", (), (), ())
OTHER = ("fields", "once", "grey", (), ("old",), ("old",))
SIX = ((), (), (("tell", integer(6)),))
LIB = ((), ("n",), (("let", "n", integer(6)),))
USER = ((("lib", "n", "m"),), (), (("tell", name("m")),))
COUNT = Program({"top": ((), (), (("let", "n", integer(3)), ("while", name("n"), (
    ("tell", name("n")), ("put", "n", ("work", "sub", name("n"), integer(1))))), ("throw", word("w"))))}, "top")


def state(house):
    return (house.program(), house.plan(), house.schedule(), house.claims(), house.log(), len(house))


class Base(unittest.TestCase):
    def refused(self, house, deed, error, **fields):
        ahead = state(house)
        with self.assertRaises(error, msg=deed) as caught:
            house.do(deed)
        self.assertIs(type(caught.exception), error)
        for field, value in fields.items():
            self.assertEqual(getattr(caught.exception, field), value)
        self.assertEqual(state(house), ahead)


class TestBegin(Base):
    def test_wrong(self):
        for thing in STRANGE + [SMALL.modules(), {"top": SIX}, House(SMALL)]:
            with self.assertRaises(Wrong) as caught:
                House(thing)
            self.assertEqual(caught.exception.place, 0)

    def test_at_first(self):
        house = House(SMALL)
        self.assertEqual(state(house), (SMALL, FIRST, (1,), [], [], 0))
        self.assertTrue(keeps(house.plan()))


class TestForms(Base):
    def test_what_is_none_by_its_form(self):
        house = House(SMALL)
        deeds = STRANGE + [
            ("module",), ("module", "lib"), ("module", "lib", LIB, LIB), ("module", "let", LIB), ("module", "lib", list(LIB)), ("module", "lib", LIB[:2]),
            ("module", LIB, "lib"), ["module", "lib", LIB], ("drop",), ("drop", "let"), ("drop", 1), ("drop", None), ("drop", ["top"]), ("drop", "top", "top"),
            ("main",), ("main", "cell"), ("main", 0), ("main", "top", 1), ("plan",), ("plan", BARE[:5]), ("plan", list(BARE)), ("plan",) + BARE,
            ("plan", ("whole", "kept", "black", ("old", "new"), (), ())), ("schedule",), ("schedule", ()), ("schedule", [1]), ("schedule", (51,)),
            ("schedule", (-1,)), ("schedule", (True,)), ("schedule", 1), ("schedule", (1,), 2), ("schedule", ("1",)), ("claim",), ("claim", 1, ()),
            ("claim", -1, (), ("done",)), ("claim", 2001, (), ("done",)), ("claim", True, (), ("done",)), ("claim", None, (), ("done",)),
            ("claim", 1, [], ("done",)), ("claim", 1, (None,), ("done",)), ("claim", 1, ("let",), ("done",)), ("claim", 1, (("at", 0),), ("done",)),
            ("claim", 1, (), ("lost",)), ("claim", 1, (), "done"), ("claim", 1, (), ["done"]), ("claim", 1, (), ("thrown",)), ("claim", 1, (), ("thrown", None)),
            ("claim", 1, (), ("thrown", "if")), ("claim", 1, (), ()), ("claim", 1, (), ("done", 1)), ("claim", 1, (), ("done",), 1), ("claim", 1, (), None),
            ("free",), ("free", "0"), ("free", None), ("free", True), ("free", (0,)), ("free", 0, 0), ("back",), ("again",), ("Main", "top"), (("main", "top"),), "main",
        ]
        for deed in deeds:
            self.refused(house, deed, NoDeed)

    def test_ahead_of_all_other_refusals(self):
        house = House(SMALL)
        self.refused(house, ("drop", "nothing"), NoDeed)
        self.refused(house, ("module", "top", ((), (), (("back", 1),))), NoDeed)


class TestDeeds(Base):
    def test_modules(self):
        house = House(SMALL)
        self.assertIsNone(house.do(("module", "lib", LIB)))
        self.assertEqual(house.program(), Program({"lib": LIB, "top": SMALL.module("top")}, "top"))
        self.assertIsNone(house.do(("module", "top", USER)))
        self.assertEqual(house.program(), Program({"lib": LIB, "top": USER}, "top"))
        self.assertEqual(house.log(), [("module", "lib", LIB), ("module", "top", USER)])

    def test_what_program_would_raise(self):
        house = House(SMALL)
        house.do(("module", "lib", LIB))
        self.refused(house, ("module", "top", ((("gone", "n", "m"),), (), ())), Missing, name="gone")
        self.refused(house, ("module", "lib", ((("lib", "n", "m"),), ("n",), (("let", "n", NOTHING),))), Round, name="lib")
        self.refused(house, ("module", "top", ((("lib", "q", "m"),), (), ())), NoExport, home="lib", name="q")
        self.refused(house, ("module", "lib", ((), ("n",), ())), NoExport, home="lib", name="n")
        self.refused(house, ("module", "a", ((), (), (("tell", name("q")),))), Loose, home="a", name="q")
        self.refused(house, ("module", "a", ((("lib", "n", "m"),), (), (("put", "m", NOTHING),))), Fixed, home="a", name="m")
        self.refused(house, ("module", "a", ((), (), (("yield", NOTHING),))), Misplaced, home="a", word="yield")
        self.refused(house, ("module", "a", ((), (), (("back", NOTHING),))), Misplaced, home="a", word="back")

    def test_drop(self):
        house = House(TWO)
        self.refused(house, ("drop", "gone"), NoModule, name="gone")
        self.refused(house, ("drop", "lib"), Missing, name="lib")
        self.refused(house, ("drop", "top"), Missing, name="top")
        house.do(("drop", "aside"))
        self.assertEqual(house.program().modules(), ["lib", "top"])
        self.refused(house, ("drop", "aside"), NoModule, name="aside")

    def test_drop_of_the_last_one(self):
        self.refused(House(SMALL), ("drop", "top"), Missing, name="top")

    def test_main(self):
        house = House(TWO)
        self.refused(house, ("main", "gone"), NoModule, name="gone")
        for main in ("aside", "lib", "top", "top"):
            self.assertIsNone(house.do(("main", main)))
            self.assertEqual(house.program().main(), main)
        house.do(("main", "lib"))
        self.assertIsNone(house.do(("drop", "aside")))
        self.assertIsNone(house.do(("drop", "top")))
        self.assertEqual(house.program().modules(), ["lib"])

    def test_plans(self):
        house = House(SMALL)
        self.assertIsNone(house.do(("plan", OTHER)))
        self.assertEqual(house.plan(), OTHER)
        chance = random.Random(3)
        for plan in chance.sample(PLANS, 150):
            if keeps(plan):
                house.do(("plan", plan))
                self.assertEqual(house.plan(), plan)
            else:
                self.refused(house, ("plan", plan), Losing)

    def test_a_plan_that_loses_is_shown(self):
        with self.assertRaises(Losing) as caught:
            House(SMALL).do(("plan", BARE))
        shown = caught.exception.shown
        self.assertEqual(shown, loss(BARE))
        self.assertTrue(is_loss(BARE, *shown))

    def test_schedules(self):
        house = House(SMALL)
        for schedule in ((0,), (50,), (1, 2, 3), tuple(range(51))):
            self.assertIsNone(house.do(("schedule", schedule)))
            self.assertEqual(house.schedule(), schedule)

    def test_claims(self):
        house = House(COUNT)
        for ticks in (0, 1, 2, 3, 4, 5, 2000):
            told, end, _ = read(COUNT, ticks)
            self.assertIsNone(house.do(("claim", ticks, tuple(told), end)))
        self.assertEqual(house.claims()[:2], [(0, (), ("ticks",)), (1, (3,), ("ticks",))])
        self.assertEqual(house.claims()[-1], (2000, (3, 2, 1), ("thrown", "w")))
        self.refused(house, ("claim", 5, (3, 2), ("thrown", "w")), Broken, number=7, found=(3, 2, 1))
        self.refused(house, ("claim", 5, (3, 2, 1), ("thrown", "v")), Broken, number=7, found=(3, 2, 1))
        self.refused(house, ("claim", 5, (3, 2, 1), ("done",)), Broken, number=7, found=(3, 2, 1))
        self.refused(house, ("claim", 0, (3,), ("ticks",)), Broken, number=7, found=())

    def test_told_kinds(self):
        body = tuple(("tell", one) for one in (NOTHING, ("cell", ()), ("make", (), ()), ("call", ("maker", (), ()), ()), word("w"), integer(10 ** 9)))
        house = House(Program({"top": ((), (), body)}, "top"))
        self.assertIsNone(house.do(("claim", 5, ("nothing", "cell", "function", "generator", "w", 10 ** 9), ("done",))))

    def test_free(self):
        house = House(SMALL)
        for number in (0, -1, 10 ** 30):
            self.refused(house, ("free", number), NoNumber, number=number)
        claims = [(ticks, (4,), ("done",)) for ticks in range(3)]
        for claim in claims:
            house.do(("claim",) + claim)
        self.assertEqual(house.claims(), claims)
        self.refused(house, ("free", 3), NoNumber, number=3)
        self.refused(house, ("free", -1), NoNumber, number=-1)
        house.do(("free", 1))
        self.assertEqual(house.claims(), [claims[0], claims[2]])
        house.do(("free", 1))
        house.do(("free", 0))
        self.assertEqual(house.claims(), [])

    def test_the_least_claim_that_would_not_hold_is_told(self):
        house = House(COUNT)
        house.do(("claim", 0, (), ("ticks",)))
        house.do(("claim", 5, (3, 2, 1), ("thrown", "w")))
        house.do(("claim", 6, (3, 2, 1), ("thrown", "w")))
        while_none = ((), (), (("while", integer(1), ()),))
        self.refused(house, ("module", "top", while_none), Broken, number=1, found=())
        self.refused(house, ("module", "top", SIX), Broken, number=0, found=(6,))
        house.do(("free", 0))
        self.refused(house, ("module", "top", SIX), Broken, number=0, found=(6,))
        house.do(("free", 0))
        house.do(("free", 0))
        self.assertIsNone(house.do(("module", "top", SIX)))

    def test_drops_and_mains_break_claims_too(self):
        house = House(TWO)
        house.do(("claim", 5, (6,), ("done",)))
        self.refused(house, ("main", "aside"), Broken, number=0, found=())
        self.assertIsNone(house.do(("drop", "aside")))
        self.assertIsNone(house.do(("module", "more", SIX)))
        self.assertIsNone(house.do(("main", "more")))
        self.refused(house, ("drop", "more"), Missing, name="more")

    def test_the_order_of_refusals(self):
        house = House(SMALL)
        house.do(("claim", 5, (4,), ("done",)))
        # Both what Program would raise, and a claim that would not hold.
        self.refused(house, ("module", "top", ((("gone", "n", "m"),), (), ())), Missing, name="gone")
        self.refused(house, ("module", "top", ((), (), ())), Broken, number=0, found=())
        self.refused(house, ("plan", BARE), Losing)

    def test_plans_and_schedules_break_no_claims(self):
        house = House(COUNT)
        house.do(("claim", 5, (3, 2, 1), ("thrown", "w")))
        house.do(("plan", OTHER))
        house.do(("schedule", (0, 50)))
        self.assertEqual(len(house), 3)

    def test_run(self):
        for seed in range(30):
            program = looping(seed)
            house = House(program)
            house.do(("plan", OTHER))
            house.do(("schedule", (3, 0, 1)))
            for ticks in (0, 7, 60):
                self.assertEqual(house.run(ticks), ran_led(program, ticks, OTHER, (3, 0, 1)))
                self.assertEqual(house.run(ticks), read(program, ticks))
        self.assertEqual(House(SMALL).run(0), ([4], ("done",), 0))


class TestBackAndAgain(Base):
    DEEDS = [("module", "lib", LIB), ("module", "top", USER), ("plan", OTHER), ("schedule", (2,)), ("claim", 3, (6,), ("done",)), ("free", 0), ("main", "lib"),
             ("drop", "top")]

    def made(self):
        house = House(SMALL)
        states = [state(house)]
        for deed in self.DEEDS:
            house.do(deed)
            states.append(state(house))
        return house, states

    def test_one_behind_another(self):
        house, states = self.made()
        self.assertEqual((house.log(), len(house)), (self.DEEDS, 8))
        for index in reversed(range(8)):
            self.assertEqual(house.back(), self.DEEDS[index])
            self.assertEqual(state(house), states[index])
        with self.assertRaises(Nothing):
            house.back()
        for index in range(8):
            self.assertEqual(house.again(), self.DEEDS[index])
            self.assertEqual(state(house), states[index + 1])
        with self.assertRaises(Nothing):
            house.again()

    def test_nothing_at_first(self):
        for call in ("back", "again"):
            with self.assertRaises(Nothing):
                getattr(House(SMALL), call)()

    def test_a_deed_puts_away_what_could_be_done_again(self):
        house, _ = self.made()
        house.back()
        house.back()
        house.do(("schedule", (7,)))
        with self.assertRaises(Nothing):
            house.again()
        self.assertEqual(house.back(), ("schedule", (7,)))
        self.assertEqual(house.again(), ("schedule", (7,)))

    def test_a_refused_deed_counts_for_nothing(self):
        house, states = self.made()
        house.back()
        for deed in (("drop", "gone"), ("plan", BARE), 5, ("free", 3)):
            with self.assertRaises(ReachError):
                house.do(deed)
        self.assertEqual(house.again(), self.DEEDS[7])
        self.assertEqual(state(house), states[8])

    def test_questions_and_trials_count_for_nothing(self):
        house, states = self.made()
        house.back()
        house.run(5)
        house.trial([("schedule", (9,))])
        with self.assertRaises(Stopped):
            house.trial([("schedule", (9,)), 5])
        self.assertEqual(house.again(), self.DEEDS[7])
        self.assertEqual(state(house), states[8])

    def test_what_is_returned_is_new(self):
        house, states = self.made()
        house.log().clear()
        house.claims().append(1)
        self.assertEqual(state(house), states[8])


class TestCopiesAndTrials(Base):
    def test_copies_go_on_by_themselves_with_what_was_taken_back(self):
        house = House(SMALL)
        for deed in TestBackAndAgain.DEEDS:
            house.do(deed)
        house.back()
        house.back()
        other = house.copied()
        self.assertIsInstance(other, House)
        self.assertEqual(state(other), state(house))
        self.assertEqual(other.again(), TestBackAndAgain.DEEDS[6])
        self.assertEqual((len(house), len(other)), (6, 7))
        house.do(("schedule", (4,)))
        self.assertEqual(other.again(), TestBackAndAgain.DEEDS[7])
        with self.assertRaises(Nothing):
            house.again()
        self.assertEqual([other.back() for _ in range(8)], TestBackAndAgain.DEEDS[::-1])
        self.assertEqual((len(house), house.schedule()), (7, (4,)))

    def test_trials(self):
        house = House(SMALL)
        house.do(("schedule", (2,)))
        ahead = state(house)
        other = house.trial(TestBackAndAgain.DEEDS)
        self.assertEqual((state(house), len(other), other.log()[1:]), (ahead, 9, TestBackAndAgain.DEEDS))
        self.assertEqual(state(house.trial([])), ahead)
        for index in range(len(TestBackAndAgain.DEEDS) + 1):
            for bad in (5, ("drop", "gone"), ("plan", BARE), ("free", 4), ("claim", 3, (9,), ("done",))):
                deeds = TestBackAndAgain.DEEDS[:index] + [bad] + TestBackAndAgain.DEEDS[index:]
                with self.assertRaises(Stopped) as caught:
                    house.trial(deeds)
                self.assertEqual(caught.exception.index, index)
                self.assertEqual(state(house), ahead)

    def test_the_copy_of_a_trial_goes_on_by_itself(self):
        house = House(SMALL)
        house.do(("schedule", (2,)))
        house.back()
        other = house.trial([])
        self.assertEqual(other.again(), ("schedule", (2,)))
        self.assertEqual(house.again(), ("schedule", (2,)))
        other = house.trial([("schedule", (3,))])
        self.assertEqual([other.back(), other.back(), len(house)], [("schedule", (3,)), ("schedule", (2,)), 1])

    def test_equal_and_unlike(self):
        self.assertTrue(House(SMALL) == House(Program({"top": SMALL.module("top")}, "top")))
        self.assertFalse(House(SMALL) == House(TWO))
        for deed in (("module", "lib", LIB), ("plan", OTHER), ("schedule", (2,)), ("claim", 3, (4,), ("done",))):
            one, other = House(SMALL), House(SMALL)
            one.do(deed)
            self.assertFalse(one == other)
            self.assertTrue(one != other)
            other.do(deed)
            self.assertTrue(one == other)
            one.back()
            self.assertTrue(one == House(SMALL))
        one, other = House(SMALL), House(SMALL)
        one.do(("schedule", (1,)))
        # How it came about is not looked at.
        self.assertTrue(one == other)
        one, other = House(TWO), House(TWO)
        one.do(("main", "lib"))
        self.assertFalse(one == other)
        for thing in STRANGE + [SMALL]:
            self.assertFalse(one == thing)

    def test_the_order_of_claims_is_looked_at(self):
        one, other = House(SMALL), House(SMALL)
        claims = [("claim", 3, (4,), ("done",)), ("claim", 4, (4,), ("done",))]
        for claim in claims:
            one.do(claim)
        for claim in claims[::-1]:
            other.do(claim)
        self.assertFalse(one == other)

    def test_by_chance(self):
        deeds = TestBackAndAgain.DEEDS + [("drop", "lib"), ("main", "top"), ("module", "top", SIX), ("plan", BARE), ("claim", 9, (6,), ("done",)), ("free", 0), 7,
                                          ("module", "lib", SIX)]
        for seed in range(60):
            chance = random.Random(seed)
            house, past, undone = House(SMALL), [], []
            for _ in range(40):
                what = chance.randrange(4)
                if what < 2:
                    deed = chance.choice(deeds)
                    ahead = state(house)
                    refused = False
                    try:
                        house.do(deed)
                    except ReachError:
                        refused = True
                        self.assertEqual(state(house), ahead)
                    with_trial = None
                    if not refused:
                        past.append(ahead)
                        undone = []
                        self.assertEqual(house.log(), ahead[4] + [deed])
                    else:
                        with self.assertRaises(Stopped) as with_trial:
                            house.trial([deed])
                        self.assertEqual(with_trial.exception.index, 0)
                elif what == 2 and past:
                    undone.append(state(house))
                    house.back()
                    self.assertEqual(state(house), past.pop())
                elif what == 3 and undone:
                    past.append(state(house))
                    house.again()
                    self.assertEqual(state(house), undone.pop())
                if chance.random() < 0.3:
                    house = house.copied()
                for claim in house.claims():
                    told, end, _ = read(house.program(), claim[0])
                    self.assertEqual((tuple(told), end), claim[1:])
                self.assertTrue(keeps(house.plan()))


if __name__ == "__main__":
    unittest.main()
