import random
import unittest

from reachkept.desk import Desk
from reachkept.errors import NoCommand, ReachError, Wrong
from reachkept.houses import House
from reachkept.judging import do_same
from reachkept.keeping import is_loss, keeps, loss, mended
from reachkept.notation import show_plan, show_program, show_trace
from reachkept.readers import read_plan, read_step, read_trace
from reachkept.shortening import lean
from tests.test_houses import COUNT, OTHER, state
from tests.test_led import PLANS
from tests.test_judging import Chance
from tests.test_notation import SMALL, TWO, TWO_TEXT
from tests.test_readers import otherwise
from tests.things import STRANGE

DEEDS = [
    ("module lib import ( ) ( n ) { let n 6 }", "done"), ("module top import ( lib n m ) ( ) { tell m }", "done"), ("main lib", "done"), ("main top", "done"),
    ("plan fields once grey - old old", "done"), ("schedule 0,50,3", "done"), ("claim 9 done 6", "done"), ("claim 2000 done 6", "done"), ("free 1", "done"),
    ("module aside import ( ) ( ) { }", "done"), ("drop aside", "done"), ("module loop import ( ) ( ) { while 1 { } }", "done"),
]

REFUSED = [
    ("drop gone", "refused NoModule"), ("main gone", "refused NoModule"), ("free 7", "refused NoNumber"), ("free -1", "refused NoNumber"),
    ("drop lib", "refused Missing"), ("module lib import ( ) ( ) { let n 6 }", "refused NoExport"), ("module lib import ( lib n x ) ( n ) { let n 6 }", "refused Round"),
    ("module a import ( ) ( ) { tell q }", "refused Loose"), ("module a import ( lib n x ) ( ) { put x 1 }", "refused Fixed"),
    ("module a import ( ) ( ) { back 1 }", "refused Misplaced"), ("plan whole kept black - - -", "refused Losing"), ("claim 9 done 7", "refused Broken"),
    ("claim 9 ticks 6", "refused Broken"), ("module top import ( ) ( ) { }", "refused Broken"), ("main loop", "refused Broken"),
    ("claim 9 thrown 6 6", "refused Broken"), ("module a import ( gone n x ) ( ) { }", "refused Missing"),
]


class Base(unittest.TestCase):
    def refuses(self, desk, line):
        ahead = state(desk.house())
        with self.assertRaises(NoCommand, msg=line):
            desk.execute(line)
        self.assertEqual(state(desk.house()), ahead)


class TestDeeds(Base):
    def test_wrong(self):
        for thing in STRANGE + [House(SMALL)]:
            with self.assertRaises(Wrong) as caught:
                Desk(thing)
            self.assertEqual(caught.exception.place, 0)

    def test_the_example_of_the_document(self):
        desk = Desk(SMALL)
        lines = ["run 5", "claim 9 done 4", "module lib import ( ) ( n ) { let n 6 }", "module top import ( lib n m ) ( ) { tell m }", "claims"]
        self.assertEqual([desk.execute(line) for line in lines], ["done 4", "done", "done", "refused Broken", "9 done 4"])
        lines = ["free 0", "module top import ( lib n m ) ( ) { tell m }", "run 0", "drop lib", "plan whole kept black - - -",
                 "keeps whole once black - old old", "back"]
        self.assertEqual([desk.execute(line) for line in lines],
                         ["done", "done", "done 6", "refused Missing", "refused Losing", "yes", "module top import ( lib n m ) ( ) { tell m }"])

    def test_deeds_and_refusals(self):
        desk = Desk(SMALL)
        for line, answer in DEEDS:
            self.assertEqual(desk.execute(line), answer)
        house = desk.house()
        self.assertEqual((len(house), house.plan(), house.schedule(), house.claims(), house.program().modules()),
                         (len(DEEDS), OTHER, (0, 50, 3), [(9, (6,), ("done",))], ["lib", "loop", "top"]))
        for line, answer in REFUSED:
            ahead = state(desk.house())
            self.assertEqual(desk.execute(line), answer, line)
            self.assertEqual(state(desk.house()), ahead)

    def test_back_and_again_return_the_lines(self):
        desk = Desk(SMALL)
        self.assertEqual([desk.execute("back"), desk.execute("again")], ["nothing", "nothing"])
        for line, _ in DEEDS:
            desk.execute(line)
        last = desk.house()
        for line, _ in DEEDS[::-1]:
            self.assertEqual(desk.execute("back"), line)
        self.assertEqual(desk.execute("back"), "nothing")
        self.assertTrue(desk.house() == House(SMALL))
        for line, _ in DEEDS:
            self.assertEqual(desk.execute("again"), line)
        self.assertEqual(desk.execute("again"), "nothing")
        self.assertTrue(desk.house() == last)
        desk.execute("back")
        desk.execute("schedule 4")
        self.assertEqual([desk.execute("again"), desk.execute("back")], ["nothing", "schedule 4"])

    def test_claims_of_all_ends(self):
        desk = Desk(COUNT)
        lines = ["claim 5 thrown w 3 2 1", "claim 0 ticks", "claim 2 ticks 3 2"]
        for line in lines:
            self.assertEqual(desk.execute(line), "done")
        self.assertEqual(desk.execute("claims"), "5 thrown w 3 2 1; 0 ticks; 2 ticks 3 2")
        self.assertEqual(desk.house().claims(), [(5, (3, 2, 1), ("thrown", "w")), (0, (), ("ticks",)), (2, (3, 2), ("ticks",))])
        self.assertEqual([desk.execute("back") for _ in range(3)], lines[::-1])
        self.assertEqual(desk.execute("claims"), "-")
        told = Desk(SMALL)
        told.execute("module top import ( ) ( ) { tell nothing tell cell ( ) tell make ( ) { } tell call maker ( ) { } ( ) tell -7 throw nothing }")
        self.assertEqual(told.execute("run 3"), "thrown nothing nothing cell function generator -7")
        self.assertEqual(told.execute("claim 3 thrown nothing nothing cell function generator -7"), "done")

    def test_the_house_is_a_copy(self):
        desk = Desk(SMALL)
        desk.house().do(("schedule", (9,)))
        self.assertEqual((desk.execute("schedule"), len(desk.house())), ("1", 0))
        desk.execute("schedule 2")
        desk.execute("back")
        self.assertEqual(desk.house().again(), ("schedule", (2,)))
        self.assertEqual(desk.execute("again"), "schedule 2")


class TestQuestions(Base):
    def test_what_it_keeps(self):
        desk = Desk(TWO)
        self.assertEqual([desk.execute(line) for line in ("program", "plan", "schedule", "claims")],
                         [TWO_TEXT, "whole kept black new - -", "1", "-"])
        desk.execute("schedule 3,0")
        desk.execute("plan fields once grey - old old")
        desk.execute("drop aside")
        self.assertEqual([desk.execute("plan"), desk.execute("schedule")], ["fields once grey - old old", "3,0"])
        self.assertEqual(desk.execute("program"), show_program(desk.house().program()))

    def test_run(self):
        desk = Desk(COUNT)
        self.assertEqual([desk.execute("run " + str(ticks)) for ticks in (0, 1, 3, 4, 2000)],
                         ["ticks", "ticks 3", "ticks 3 2 1", "thrown w 3 2 1", "thrown w 3 2 1"])

    def test_keeps_loss_and_mended(self):
        desk = Desk(SMALL)
        chance = random.Random(2)
        for plan in chance.sample(PLANS, 120):
            text = show_plan(plan)
            self.assertEqual(desk.execute("keeps " + text), "yes" if keeps(plan) else "no")
            answer = desk.execute("loss " + text)
            if keeps(plan):
                self.assertEqual(answer, "none")
            else:
                heap, roots, steps = loss(plan)
                self.assertEqual([read_step(one) for one in answer.split("; ")], steps)
                self.assertTrue(is_loss(plan, heap, roots, steps))
            answer = desk.execute("mended " + text)
            found = [] if answer == "none" else [read_plan(one) for one in answer.split("; ")]
            self.assertEqual(found, mended(plan))
        self.assertEqual(desk.execute("mended whole once white - - -"), "none")
        self.assertEqual(len(desk.house()), 0)

    def test_same_and_lean(self):
        desk = Desk(SMALL)
        answers = []
        for seed in range(60):
            chance = Chance(seed)
            one = chance.trace(3, 5)
            other = chance.near(one)
            answers.append(desk.execute("same " + show_trace(one) + " / " + show_trace(other)))
            self.assertEqual(answers[-1], "yes" if do_same(one, other) else "no")
            self.assertEqual(read_trace(desk.execute("lean " + show_trace(one))), lean(one))
        self.assertEqual(sorted(set(answers)), ["no", "yes"])
        for line in ("same 1 - / 2 -", "same 1 0 / 1 -", "same 2 0 ; 0 tell 0 / 2 1 ; 0 tell 0"):
            self.assertEqual(desk.execute(line), "refused Unlike")
        size = "1" + "0" * 39
        for line, answer in (("lean {} -", "{} -"), ("lean {} 3 ; 0 tell 7 ; 1 move 3 3", "{} 3 ; 0 tell 7"), ("same {} - / {} -", "yes"),
                             ("same {} - ; 0 tell 7 / {} - ; 0 tell 8", "no"), ("same {} - / 1 -", "refused Unlike"), ("run {}", None),
                             ("claim {} done", None), ("free {}", "refused NoNumber"), ("schedule {}", None)):
            if answer is None:
                self.refuses(desk, line.format(size))
            else:
                self.assertEqual(desk.execute(line.replace("{}", size)), answer.format(size))
        self.assertEqual([desk.execute("same 1 - / 1 -"), desk.execute("lean 1 -"), desk.execute("lean 1 0 ; 0 move 0 0")], ["yes", "1 -", "1 0"])


class TestNoCommand(Base):
    def test_lines_that_are_none(self):
        desk = Desk(TWO)
        desk.execute("claim 9 done 6")
        for line in ["", " ", "\n", "x", "Run 5", "run", "run ", "run x", "run -1", "run 2001", "run 05", "run +5", "run 5 ", "run  5", " run 5", "run 5 5", "run 5\n",
                     "back 1", "back ", "again 1", "again ", "program ", "program x", "plan ", "plan whole", "plan whole kept black - -", "schedule ", "schedule -",
                     "schedule 51", "schedule -1", "schedule 1,", "schedule ,1", "schedule 1, 2", "schedule 1 2", "schedule 01", "schedule x", "claims ", "claims 0",
                     "claim", "claim 9", "claim done 6", "claim -1 done", "claim 2001 done", "claim 9 lost", "claim 9 over", "claim 9 thrown", "claim 9 done ",
                     "claim 9 done let", "claim 9 done 6,6", "claim 9 done @0", "claim 09 done", "claim 9 thrown let", "claim 9 done -0", "claim x done", "free",
                     "free ", "free x", "free 00", "free -0", "free +1", "free 0 0", "drop", "drop ", "drop let", "drop 1", "drop lib top", "main", "main ", "main if",
                     "main top top", "module", "module lib", "module lib ", "module let import ( ) ( ) { }", "module lib import ( ) ( )", "module lib ( ) ( ) { }",
                     "module lib import ( ) ( ) { } ", "module lib import ( a ) ( ) { }", "module lib import ( ) ( b a ) { let a 1 let b 1 }",
                     "module  lib import ( ) ( ) { }", "keeps", "keeps ", "keeps whole", "loss", "loss ", "loss x", "mended", "mended x", "same", "same 1 -",
                     "same 1 - /", "same 1 - / ", "same 1 - / 1 - / 1 -", "same 1 -/1 -", "same x / 1 -", "same 1 - / x", "lean", "lean ", "lean x", "lean 1 2",
                     "do", "house", "log", "trial", "copied", "nothing", "done"]:
            self.refuses(desk, line)

    def test_each_with_a_word_otherwise(self):
        chance = random.Random(1)
        base = Desk(SMALL)
        for line, _ in DEEDS:
            base.execute(line)
        lines = [line for line, _ in DEEDS + REFUSED] + ["run 5", "program", "plan", "schedule", "claims", "back", "again", "keeps whole once black - old old",
                                                         "loss whole kept black - - -", "mended whole kept black - - -", "same 1 - ; 0 tell 0 / 1 - ; 0 tell 0",
                                                         "lean 2 0 ; 0 tell 0"]
        answered = 0
        for line in lines:
            for other in otherwise(line, chance, 120):
                desk = Desk(SMALL)
                for first in ("module lib import ( ) ( n ) { let n 6 }", "claim 9 done 4"):
                    desk.execute(first)
                ahead = state(desk.house())
                try:
                    text = desk.execute(other)
                except ReachError as error:
                    self.assertIs(type(error), NoCommand)
                    self.assertEqual(state(desk.house()), ahead)
                    continue
                answered += 1
                self.assertIs(type(text), str)
                if text.startswith("refused "):
                    self.assertEqual(state(desk.house()), ahead)
                elif text == "done" and len(desk.house()) == 3:
                    # What a back returns is the line that was done.
                    self.assertEqual(desk.execute("back"), other)
                    self.assertEqual(state(desk.house()), ahead)
        self.assertGreater(answered, 100)

    def test_long_and_deep_lines(self):
        desk = Desk(SMALL)
        self.assertEqual(desk.execute("module top import ( ) ( ) { tell " + "next " * 900 + "1 }"), "done")
        self.assertEqual(desk.execute("run 5"), "thrown kind")
        self.assertEqual(len(desk.execute("back")), len("module top import ( ) ( ) { tell 1 }") + 4500)
        self.refuses(desk, "module top import ( ) ( ) { tell " + "next " * 5000)


if __name__ == "__main__":
    unittest.main()
