import random
import unittest

from reachkept.checking import is_sound
from reachkept.compiling import compiled
from reachkept.errors import NoFit, NoTrace, Over, Wrong
from reachkept.heaps import Heap
from reachkept.keeping import keeps
from reachkept.led import Led
from reachkept.machines import Machine
from reachkept.plans import plans
from reachkept.recording import trace_at, truths_of, way_lean
from tests.follower import Follower, Tracer
from tests.loops import looping
from tests.made import made
from tests.test_recording import LOOP, alone
from tests.things import STRANGE

KEPT = ("whole", "kept", "black", ("new",), (), ())
BARE = ("whole", "kept", "black", (), (), ())
PLANS = [plan for scan in ("fields", "whole") for roots in ("again", "kept", "once")
         for fresh in ("black", "grey", "white") for plan in plans(scan, roots, fresh)]


def stepped(led, many):
    for _ in range(many):
        led.step()
    return led


class TestWhatIsWrong(unittest.TestCase):
    def refuses(self, place, *given):
        with self.assertRaises(Wrong) as caught:
            Led(*given)
        self.assertEqual(caught.exception.place, place)

    def test_codes(self):
        for thing in STRANGE + [alone(1, ("tell", 0)), alone(0, ("tell", 0), ("end",)), alone(1), list(LOOP)]:
            self.refuses(0, thing, 5, KEPT, (1,))
            self.refuses(0, thing, None, None, None)

    def test_ticks(self):
        for thing in STRANGE + ["5", (5,)]:
            if not (type(thing) is int and thing >= 0):
                self.refuses(1, LOOP, thing, KEPT, (1,))
                self.refuses(1, LOOP, thing, (), ())

    def test_plan(self):
        for thing in STRANGE + [KEPT[:5], list(KEPT), ("whole", "kept", "black", ("new", "back"), (), ())]:
            self.refuses(2, LOOP, 5, thing, (1,))
            self.refuses(2, LOOP, 5, thing, ())

    def test_schedule(self):
        for thing in STRANGE + [(51,), [0, -1], (1, True), ("1",), [None], {1: 1}, "1", 1, (1, 2, 10 ** 30)]:
            if thing not in ([0], [1], (0,), (1,), (1, 2)) or any(type(part) is bool for part in thing):
                self.refuses(3, LOOP, 5, KEPT, thing)

    def test_what_is_taken(self):
        for schedule in ((0,), [0], (50,), [50] * 3, (0, 50), list(range(51))):
            self.assertEqual(Led(LOOP, 9, KEPT, schedule).run(), [0])
        self.assertEqual(Led(LOOP, 0, BARE, (1,)).run(), [])

    def test_arguments_are_copied(self):
        schedule = [0, 1]
        led = Led(LOOP, 9, KEPT, schedule)
        schedule[:] = ["x"]
        self.assertEqual(led.run(), [0])


class TestAsAMachine(unittest.TestCase):
    def test_it_is_one(self):
        self.assertIsInstance(Led(LOOP, 9, KEPT, (1,)), Machine)

    def test_all_that_a_machine_tells(self):
        for schedule in ((0,), (1,), (3, 0, 7)):
            led, machine = Led(LOOP, 9, KEPT, schedule), Machine(LOOP, 9)
            while machine.end() is None:
                self.assertEqual(led.step(), machine.step())
                self.assertEqual((led.told(), led.end(), led.left(), led.done()),
                                 (machine.told(), machine.end(), machine.left(), machine.done()))
                if schedule == (0,):
                    self.assertEqual(led.heap(), machine.heap())
            for call in (led.step, led.run):
                with self.assertRaises(Over):
                    call()
            self.assertEqual(led.told(), [0])

    def test_run_tells_what_is_told_by_it(self):
        led = stepped(Led(alone(1, ("tell", 0), ("tell", 0), ("end",)), 5, KEPT, (1,)), 1)
        self.assertEqual((led.run(), led.told()), (["nothing"], ["nothing", "nothing"]))

    def test_a_lacking_tick(self):
        led = Led(LOOP, 1, KEPT, (50,))
        stepped(led, 6)
        ahead = (led.done(), led.ended(), led.freed(), led.colours())
        self.assertEqual(led.step(), [])
        # The op is not done, and no step of the collector either.
        self.assertEqual((led.end(), led.left(), (led.done(), led.ended(), led.freed(), led.colours())),
                         (("ticks",), 0, ahead))

    def test_what_is_returned_is_new(self):
        led = stepped(Led(LOOP, 9, BARE, (1,)), 2)
        led.heap().put(1, 0, 7)
        led.told().append(1)
        led.colours().clear()
        led.lost().append(1)
        led.laid().append(1)
        self.assertEqual((led.heap().get(1, 0), led.told(), led.colours(), led.lost(), led.laid()),
                         (3, [], {0: "black", 1: "grey"}, [], []))
        self.assertIs(type(led.heap()), Heap)

    def test_copies_go_on_by_themselves(self):
        for many in range(13):
            led = Led(LOOP, 9, ("fields", "kept", "grey", ("new",), ("new",), ()), (1, 2))
            led.lay(0, 1, [True], way_lean(LOOP, 0, 1, [True]))
            stepped(led, min(many, 12))
            other = led.copied()
            self.assertIsInstance(other, Led)
            state = (led.heap(), led.colours(), led.done(), led.ended(), led.freed(), led.end(), led.laid(), led.left())
            if other.end() is None:
                other.run()
            self.assertEqual((led.heap(), led.colours(), led.done(), led.ended(), led.freed(), led.end(), led.laid(),
                              led.left()), state)
            if led.end() is None:
                led.run()
            for one in ("told", "end", "left", "done", "heap", "colours", "ended", "freed", "lost", "laid"):
                self.assertEqual(getattr(led, one)(), getattr(other, one)(), one)
        other = Led(LOOP, 9, KEPT, (1,))
        copy = other.copied()
        copy.lay(0, 1, [True], way_lean(LOOP, 0, 1, [True]))
        self.assertEqual((other.laid(), copy.laid()), ([], [(0, 1)]))


    def test_copies_behind_what_was_freed_and_lost(self):
        codes = alone(1, ("cell", 0), ("cell", 0), ("keep", 0, 1), ("keep", 0, 1), ("cell", 0), ("end",))
        for plan, schedule in ((KEPT, (0, 0, 0, 5)), (("whole", "once", "white", (), (), ()), (0, 0, 0, 2, 1))):
            led = Led(codes, 0, plan, schedule)
            led.run()
            other = led.copied()
            self.assertGreater(led.freed(), 0)
            for one in ("told", "end", "left", "done", "heap", "colours", "ended", "freed", "lost", "laid"):
                self.assertEqual(getattr(led, one)(), getattr(other, one)(), one)
            with self.assertRaises(Over):
                other.step()
            for one in (led, other):
                with self.assertRaises(NoTrace):
                    truths_of(one)
        self.assertEqual(led.end(), ("lost",))


class TestTheCollector(unittest.TestCase):
    def test_each_step_by_its_place_in_the_schedule(self):
        codes = alone(1, *[("keep", 0, 1)] * 9, ("end",))
        led = Led(codes, 0, BARE, (0, 1, 2))
        found = []
        for _ in range(9):
            led.step()
            found.append((led.colours(), led.ended()))
        self.assertEqual(found, [
            ({}, 0), ({0: "grey", 1: "white"}, 0), ({0: "black", 1: "black"}, 0),
            ({0: "black", 1: "black"}, 0), ({}, 1), ({0: "black", 1: "grey"}, 1),
            ({0: "black", 1: "grey"}, 1), ({0: "black", 1: "black"}, 1), ({0: "grey", 1: "white"}, 2)])

    def test_a_schedule_of_noughts(self):
        led = Led(LOOP, 9, BARE, (0, 0))
        while led.end() is None:
            led.step()
            self.assertEqual((led.colours(), led.ended(), led.freed(), led.lost()), ({}, 0, 0, []))

    def test_fields_are_scanned_one_by_one(self):
        codes = alone(2, *[("keep", 0, 1)] * 20, ("end",))
        led = stepped(Led(codes, 0, ("fields", "kept", "black", (), (), ()), (1,)), 2)
        # The root has the fields -9, 0 and 1; then it is made black, and then come the frame's eight.
        self.assertEqual(led.colours(), {0: "grey", 1: "white"})
        self.assertEqual(stepped(led, 1).colours(), {0: "grey", 1: "grey"})
        self.assertEqual(stepped(led, 2).colours(), {0: "black", 1: "grey"})
        self.assertEqual(stepped(led, 8).colours(), {0: "black", 1: "grey"})
        self.assertEqual(stepped(led, 1).colours(), {0: "black", 1: "black"})
        self.assertEqual((stepped(led, 1).colours(), led.ended()), ({}, 1))

    def test_roots_that_are_not_kept_are_black(self):
        codes = alone(1, ("keep", 0, 1), ("keep", 0, 1), ("end",))
        for roots in ("once", "again"):
            led = stepped(Led(codes, 0, ("whole", roots, "black", (), (), ()), (1,)), 1)
            self.assertEqual(led.colours(), {0: "black", 1: "grey"})

    def test_cells_are_freed(self):
        codes = alone(1, ("cell", 0), ("cell", 0), ("cell", 0), ("keep", 0, 1), ("end",))
        led = Led(codes, 0, BARE, (0, 0, 0, 0, 5))
        led.run()
        self.assertEqual((led.end(), led.ended(), led.freed(), led.lost(), led.heap().numbers()), (("done",), 1, 3, [], [0, 1]))

    def test_the_colours_of_new_cells_are_told_by_fresh(self):
        for fresh in ("black", "grey", "white"):
            led = Led(alone(2, ("keep", 0, 1), ("cell", 0), ("cell", 1), ("end",)), 0, ("whole", "once", fresh, (), (), ()), (1, 0))
            stepped(led, 2)
            self.assertEqual(led.colours(), {0: "black", 1: "grey", 2: fresh})
            stepped(led, 1)
            self.assertEqual(led.colours(), {0: "black", 1: "black", 2: "grey" if fresh == "white" else fresh,
                                             3: "grey" if fresh == "white" else fresh})

    def test_cells_that_are_made_while_it_is_idle_have_no_colour(self):
        led = stepped(Led(alone(1, ("cell", 0), ("end",)), 0, ("whole", "kept", "grey", (), (), ()), (0,)), 1)
        self.assertEqual(led.colours(), {})

    def test_frames_functions_and_generators_are_cells(self):
        maker = (0, 1, "maker", 0, (("yield", 0), ("end",)))
        top = (0, 2, "module", None, (("close", 0, 1), ("call", 1, 0, ()), ("next", 0, 1), ("keep", 0, 1), ("end",)))
        led = Led(((top, maker), (0,)), 5, ("whole", "once", "black", (), (), ()), (1,))
        found = []
        for _ in range(3):
            led.step()
            found.append(led.colours())
        # The function is 2; the frame 3, and the generator, 4, which it has.
        self.assertEqual(found, [{0: "black", 1: "grey", 2: "white"}, {0: "black", 1: "black", 2: "grey", 3: "black", 4: "black"},
                                 {0: "black", 1: "black", 2: "black", 3: "black", 4: "black"}])

    def test_puts_are_ascending_by_cell_and_field(self):
        # At the call the new frame 4 gets its given, the white cell 3, and the frame 1 that waits.
        make = (1, 1, "make", 0, (("back", 0),))
        top = (0, 3, "module", None, (("close", 0, 1), ("cell", 1), ("keep", 2, 0), ("call", 2, 0, (1,)), ("end",)))
        codes = ((top, make), (0,))
        for lot, expected in (((), "white"), (("new",), "grey"), (("back",), "white")):
            led = Led(codes, 5, ("whole", "kept", "black", lot, (), ()), (0, 0, 1, 0))
            stepped(led, 4)
            self.assertEqual(led.colours()[3], expected)
            self.assertEqual(led.colours()[4], "grey" if lot == ("back",) else "black")

    def test_old_values_are_those_ahead_of_the_op(self):
        codes = alone(2, ("cell", 0), ("cell", 0), ("keep", 0, 5), ("end",))
        led = Led(codes, 0, ("whole", "once", "white", (), ("old",), ()), (0, 1, 0))
        stepped(led, 3)
        self.assertEqual(led.colours(), {0: "black", 1: "grey", 2: "white", 3: "grey"})

    def test_fields_with_the_same_value_are_not_put(self):
        codes = alone(2, ("cell", 0), ("keep", 1, 1), ("move", 0, 0), ("end",))
        for lot in (("old",), ("new",), ("back",)):
            led = Led(codes, 0, ("whole", "once", "white", lot, lot, lot), (0, 2, 0))
            stepped(led, 2)
            self.assertEqual(led.colours(), {0: "black", 1: "black", 2: "grey"})
        codes = alone(2, ("cell", 0), ("cell", 1), ("store", 0, "f", 1), ("keep", 1, 3), ("store", 0, "f", 1), ("end",))
        self.assertEqual(Led(codes, 0, KEPT, (1,)).run(), [])

    def test_cells_lost_end_the_run(self):
        codes = alone(2, ("cell", 0), ("cell", 1), ("store", 1, "f", 0), ("keep", 0, 0), ("turn",), ("load", 0, 1, "f"),
                      ("keep", 1, 0), ("tell", 0), ("jump", 4))
        lost = set()
        for schedule in [(one, two) for one in range(4) for two in range(4)]:
            led = Led(codes, 5, BARE, schedule)
            told = led.run()
            if led.end() == ("lost",):
                lost.add(schedule)
                self.assertTrue(led.lost())
                self.assertEqual((told, led.colours()), (led.told(), {}))
                for number in led.lost():
                    self.assertFalse(number in led.heap().numbers())
                with self.assertRaises(Over):
                    led.step()
        self.assertTrue(lost and len(lost) < 16)

    def test_cells_lost_behind_the_last_op(self):
        codes = alone(1, ("keep", 0, 1), ("cell", 0), ("end",))
        plan = ("whole", "once", "white", (), (), ())
        led = Led(codes, 0, plan, (2, 0, 50))
        stepped(led, 2)
        self.assertEqual(led.colours(), {0: "black", 1: "black", 2: "white"})
        self.assertEqual(led.step(), [])
        self.assertEqual((led.end(), led.lost(), led.ended(), led.freed(), led.done(), led.colours()),
                         (("lost",), [2], 1, 1, 3, {}))
        led = Led(alone(1, ("keep", 0, 1), ("cell", 0), ("throw", 0)), 0, plan, (2, 0, 1))
        led.run()
        self.assertEqual((led.end(), led.done()), (("lost",), 3))
        led = Led(codes, 0, plan, (2, 0, 0))
        led.run()
        self.assertEqual((led.end(), led.lost()), (("done",), []))

    def test_against_a_second_one(self):
        chance = random.Random(5)
        lost = 0
        for seed in range(300):
            codes = compiled(made(seed)[2] if seed % 2 else looping(seed))
            plan = chance.choice(PLANS)
            schedule = [chance.choice([0, 1, 2, 3, 9, 50]) for _ in range(chance.randint(1, 4))]
            led, other = Led(codes, 20, plan, schedule), Follower(codes, 20, plan, schedule)
            while led.end() is None and led.done() < 60:
                self.assertEqual(led.step(), other.step())
                cells = led.heap()
                self.assertEqual({number: cells.fields(number) for number in cells.numbers()}, other.collector.cells)
                self.assertEqual((led.end(), led.lost(), led.colours(), led.ended(), led.freed()),
                                 (other.end(), other.collector.lost, other.collector.colours or {}, other.ended,
                                  other.freed), (seed, plan, schedule))
            lost += led.end() == ("lost",)
            self.assertFalse(led.lost() and keeps(plan))
        self.assertGreater(lost, 5)


class TestTraces(unittest.TestCase):
    LEAN = way_lean(LOOP, 0, 1, [True])

    def laid(self, trace, codes=LOOP, op=1, truths=(True,), ticks=9, plan=KEPT, schedule=(0, 1)):
        led = Led(codes, ticks, plan, schedule)
        self.assertIsNone(led.lay(0, op, list(truths), trace))
        return led

    def test_the_example_of_the_document(self):
        led = self.laid(self.LEAN)
        self.assertEqual([led.run(), led.end(), led.left(), led.done(), led.lost()], [[0], ("done",), 5, 12, []])

    def test_the_turn_and_the_trace_are_two_ops(self):
        led = stepped(self.laid(self.LEAN), 1)
        at = lambda: led.heap().get(1, -5)
        found = []
        for _ in range(8):
            led.step()
            found.append((at(), led.left(), led.done(), led.heap().get(1, 0)))
        self.assertEqual(found, [(2, 8, 2, 3), (1, 8, 3, 2), (2, 7, 4, 2), (1, 7, 5, 1), (2, 6, 6, 1), (1, 6, 7, 0),
                                 (2, 5, 8, 0), (2, 5, 9, 0)])
        self.assertEqual(led.run(), [0])

    def test_no_trace_ahead_of_no_fit(self):
        led = Led(LOOP, 9, KEPT, (1,))
        for op, truths in ((1, [False]), (1, []), (0, []), (2, [True]), (99, [])):
            with self.assertRaises(NoTrace):
                led.lay(0, op, truths, (0, (), ()))
        for trace in ((0, (), ()), (2, (0, 1), ()), (2, (0,), self.LEAN[2]), (3, (0, 1, 2), self.LEAN[2])):
            with self.assertRaises(NoFit):
                led.lay(0, 1, [True], trace)
        self.assertEqual(led.laid(), [])
        led.lay(0, 1, [True], self.LEAN)
        with self.assertRaises(NoFit):
            led.lay(0, 1, [True], (2, (0, 1), ()))
        self.assertEqual((led.laid(), led.run()), ([(0, 1)], [0]))

    def test_laid_is_ascending(self):
        codes = alone(1, ("turn",), ("unless", 0, 3), ("jump", 0), ("turn",), ("unless", 0, 6), ("jump", 3), ("end",))
        led = Led(codes, 9, KEPT, (1,))
        led.lay(0, 3, [True], way_lean(codes, 0, 3, [True]))
        led.lay(0, 0, [True], way_lean(codes, 0, 0, [True]))
        self.assertEqual(led.laid(), [(0, 0), (0, 3)])
        led.lay(0, 3, [True], trace_at(codes, 0, 3, [True]))
        self.assertEqual(led.laid(), [(0, 0), (0, 3)])

    def test_exits(self):
        codes = alone(2, ("keep", 0, 3), ("turn",), ("unless", 0, 5), ("tell", 0), ("jump", 6), ("end",),
                      ("work", 0, "sub", 0, 1), ("unless", 1, 1), ("jump", 1))
        self.assertTrue(is_sound(codes))
        led = self.laid(trace_at(codes, 0, 1, [True, False]), codes, truths=(True, False), ticks=3)
        # The work cannot be done, and is come to behind what was told; there it throws.
        self.assertEqual((stepped(led, 2).step(), led.heap().get(1, -5), led.end()), ([3], 6, None))
        self.assertEqual((led.step(), led.end(), led.done()), ([], ("thrown", "kind"), 4))

    def test_a_trace_in_the_place_of_another(self):
        # Both do the same, but the second one makes a cell in a register that the code has not.
        other = (3, (0, 1), self.LEAN[2] + ((9, "cell", 2),))
        led = stepped(self.laid(self.LEAN, schedule=(0,)), 2)
        led.lay(0, 1, [True], other)
        self.assertEqual(len(stepped(led, 1).heap()), 3)
        led = stepped(self.laid(self.LEAN, schedule=(0,)), 2)
        self.assertEqual(len(stepped(led, 1).heap()), 2)

    def test_a_trace_laid_behind_its_turn_waits_for_the_next_one(self):
        led = stepped(Led(LOOP, 9, KEPT, (0,)), 2)
        led.lay(0, 1, [True], self.LEAN)
        self.assertEqual(stepped(led, 1).heap().get(1, -5), 3)
        stepped(led, 3)
        self.assertEqual((led.heap().get(1, -5), led.done()), (1, 6))
        self.assertEqual(stepped(led, 2).heap().get(1, -5), 1)

    def test_registers_beyond_the_size_have_nothing_at_first(self):
        codes = alone(1, ("keep", 0, 1), ("turn",), ("unless", 0, 4), ("jump", 1), ("end",))
        for trace in ((2, (0,), ((2, "so", 0, True),)), (4, (0,), ((2, "so", 0, True), (7, "move", 3, 0), (7, "is", 2, 1)))):
            led = self.laid(trace, codes, ticks=5)
            self.assertEqual((led.run(), led.end()), ([], ("ticks",)))
            self.assertEqual(sorted(led.heap().fields(1)), [-9, -5, -4, -3, -2, -1, 0])

    def test_works_that_would_throw(self):
        for first, other, word in ((("keep", 0, "w"), 1, "kind"), (("keep", 0, None), 1, "kind"), (("cell", 0), 1, "kind"),
                                   (("keep", 0, 10 ** 30), 1, "great")):
            codes = alone(2, first, ("keep", 1, other), ("turn",), ("work", 0, "add", 0, 1), ("jump", 2))
            led = self.laid(trace_at(codes, 0, 2, []), codes, 2, ())
            self.assertEqual((led.run(), led.end()), ([], ("thrown", word)))
            self.assertEqual(led.done(), 5)
        codes = alone(2, ("keep", 0, 1), ("keep", 1, 0), ("try", 6, 0), ("turn",), ("work", 0, "quo", 0, 1), ("jump", 3),
                      ("tell", 0), ("end",))
        led = self.laid(trace_at(codes, 0, 3, []), codes, 3, ())
        self.assertEqual((led.run(), led.end()), (["nought"], ("done",)))

    def test_functions_and_generators_are_no_cells(self):
        inner = (0, 1, "maker", 0, (("end",),))
        ops = (("close", 0, 1), ("call", 1, 0, ()), ("turn",), ("is", 2, "cell", 0), ("tell", 2), ("is", 2, "cell", 1), ("tell", 2),
               ("tell", 0), ("tell", 1), ("work", 2, "same", 0, 1), ("tell", 2), ("work", 2, "same", 0, 0), ("tell", 2),
               ("unless", 1, 15), ("jump", 2), ("end",))
        codes = (((0, 3, "module", None, ops), inner), (0,))
        told = [0, 0, "function", "generator", 0, 1]
        led = self.laid(trace_at(codes, 0, 2, [True]), codes, 2, (True,), 3)
        stepped(led, 3)
        self.assertEqual((led.step(), led.heap().get(1, -5)), (told, 2))
        self.assertEqual((led.run(), led.end()), (told, ("ticks",)))
        for op in (("load", 2, 1, "f"), ("store", 0, "f", 1), ("work", 2, "add", 0, 1)):
            ops = (("close", 0, 1), ("call", 1, 0, ()), ("turn",), op, ("jump", 2))
            codes = (((0, 3, "module", None, ops), inner), (0,))
            led = stepped(self.laid(trace_at(codes, 0, 2, []), codes, 2, ()), 4)
            self.assertEqual((led.heap().get(1, -5), led.end()), (3, None))
            led.run()
            self.assertEqual(led.end(), ("thrown", "kind" if op[0] == "work" else "lack"))

    def test_cells_that_a_trace_makes_count_as_puts(self):
        codes = alone(2, ("turn",), ("cell", 1), ("store", 1, "f", 0), ("move", 0, 1), ("jump", 0))
        trace = trace_at(codes, 0, 0, [])
        for fresh in ("black", "grey", "white"):
            led = self.laid(trace, codes, 0, (), plan=("whole", "once", fresh, (), (), ()), schedule=(1, 0))
            stepped(led, 2)
            self.assertEqual(led.colours(), {0: "black", 1: "grey", 2: fresh})
            self.assertEqual(led.heap().fields(2), {"f": None})
        plan = ("whole", "once", "black", (), ("old",), ("old",))
        led = self.laid(trace, codes, 0, (), plan=("whole", "once", "white", (), ("new",), ()), schedule=(1, 0))
        self.assertEqual(stepped(led, 2).colours(), {0: "black", 1: "grey", 2: "grey"})
        led = self.laid(trace, codes, 0, (), plan=plan, schedule=(3,), ticks=50)
        led.run()
        self.assertEqual((led.end(), len(led.heap()) - len(led.heap().reached([("at", 0)])) < 9), (("ticks",), True))

    def test_a_trace_in_each_frame_of_its_code(self):
        inner = (1, 2, "make", 0, (("keep", 1, 1), ("turn",), ("unless", 0, 5), ("work", 0, "sub", 0, 1), ("jump", 1), ("back", 0)))
        top = (0, 3, "module", None, (("close", 0, 1), ("keep", 1, 3), ("call", 2, 0, (1,)), ("tell", 2), ("call", 2, 0, (1,)),
                                      ("tell", 2), ("end",)))
        codes = ((top, inner), (0,))
        led = Led(codes, 50, KEPT, (2,))
        led.lay(1, 1, [True], way_lean(codes, 1, 1, [True]))
        plain = Machine(codes, 50)
        self.assertEqual((led.run(), led.end(), led.left()), (plain.run(), plain.end(), plain.left()))
        self.assertLess(led.done(), plain.done())

    def test_a_way_on_which_a_trace_lies_is_none(self):
        led = stepped(self.laid(self.LEAN), 1)
        self.assertEqual(truths_of(stepped(Led(LOOP, 9, KEPT, (1,)), 1)), [True])
        with self.assertRaises(NoTrace):
            truths_of(led)

    def test_traces_against_a_second_one(self):
        chance = random.Random(7)
        gone_through = lost = 0
        for seed in range(250):
            codes = compiled(looping(seed))
            plan, schedule = chance.choice(PLANS), [chance.choice([0, 1, 2, 3, 9]) for _ in range(chance.randint(1, 4))]
            led, other = Led(codes, 30, plan, schedule), Tracer(codes, 30, plan, schedule)
            for code in range(len(codes[0])):
                for op in range(len(codes[0][code][4])):
                    for truths in ([True], [True, True], [True, False]):
                        try:
                            trace = chance.choice([trace_at(codes, code, op, truths), way_lean(codes, code, op, truths)])
                        except NoTrace:
                            continue
                        trace = (trace[0] + chance.randrange(2), trace[1], trace[2])
                        led.lay(code, op, truths, trace)
                        other.traces[code, op] = trace
            while led.end() is None and led.done() < 90:
                gone_through += other.awaited is not None
                self.assertEqual(led.step(), other.step(), seed)
                cells = led.heap()
                self.assertEqual({number: cells.fields(number) for number in cells.numbers()}, other.collector.cells)
                self.assertEqual((led.end(), led.lost(), led.colours(), led.ended(), led.freed(), led.done()),
                                 (other.end(), other.collector.lost, other.collector.colours or {}, other.ended,
                                  other.freed, other.machine.done()), (seed, plan, schedule))
            lost += led.end() == ("lost",)
        self.assertGreater(gone_through, 300)
        self.assertGreater(lost, 5)

    def test_lying_traces_change_nothing_that_is_told(self):
        chance = random.Random(6)
        lain = 0
        for seed in range(150):
            codes = compiled(looping(seed))
            led, plain = Led(codes, 60, chance.choice([KEPT, ("fields", "once", "grey", (), ("old",), ("old",))]), (1, 3)), Machine(codes, 60)
            for code in range(len(codes[0])):
                for op in range(len(codes[0][code][4])):
                    for truths in ([True], [True, True], [True, False]):
                        try:
                            trace = trace_at(codes, code, op, truths)
                        except NoTrace:
                            continue
                        if len(trace[2]) < 8:
                            led.lay(code, op, truths, chance.choice([trace, way_lean(codes, code, op, truths)]))
                            lain += 1
            self.assertEqual((led.run(), led.end(), led.left()), (plain.run(), plain.end(), plain.left()), seed)
        self.assertGreater(lain, 60)


if __name__ == "__main__":
    unittest.main()
