import unittest

from reachkept.checking import is_sound, unmet
from reachkept.compiling import compiled
from reachkept.errors import NoTrace
from reachkept.judging import do_same
from reachkept.machines import Machine
from reachkept.recording import fits, trace_at, truths_of, way_lean
from reachkept.shortening import idle_steps, lean
from reachkept.traces import is_trace
from tests.loops import looping

LOOP = (((0, 2, "module", None, (("keep", 0, 3), ("turn",), ("unless", 0, 6), ("keep", 1, 1), ("work", 0, "sub", 0, 1),
                                 ("jump", 1), ("tell", 0), ("end",))),), (0,))


def alone(size, *ops):
    """Codes of one module."""
    return (((0, size, "module", None, tuple(ops)),), (0,))


def to_turn(codes, ticks, many=1):
    """A machine whose next op is a turn, the so-manieth one that it comes to."""
    machine = Machine(codes, ticks)
    while True:
        heap = machine.heap()
        frame = heap.get(0, 0)[1]
        op = codes[0][heap.get(frame, -4)][4][heap.get(frame, -5)]
        if op == ("turn",):
            many -= 1
            if many == 0:
                return machine
        machine.step()


class TestTraceAt(unittest.TestCase):
    def refuses(self, codes, op, truths, code=0):
        with self.assertRaises(NoTrace):
            trace_at(codes, code, op, truths)
        with self.assertRaises(NoTrace):
            way_lean(codes, code, op, truths)
        self.assertIs(fits(codes, code, op, truths, (2, (0, 1), ())), False)

    def test_the_example_of_the_document(self):
        self.assertEqual(trace_at(LOOP, 0, 1, [True]),
                         (2, (0, 1), ((2, "so", 0, True), (3, "keep", 1, 1), (4, "work", 0, "sub", 0, 1))))

    def test_a_step_for_each_op_but_jumps(self):
        codes = alone(3, ("turn",), ("keep", 0, "w"), ("keep", 1, None), ("move", 1, 0), ("work", 0, "rest", 1, 2),
                      ("work", 0, "same", 1, 2), ("cell", 2), ("jump", 8), ("end",), ("load", 0, 2, "f"),
                      ("store", 2, "g", 1), ("tell", 0), ("is", 1, "cell", 2), ("jump", 0))
        self.assertTrue(is_sound(codes))
        self.refuses(codes, 0, [])
        codes = alone(3, *[("jump", 9) if op == ("jump", 8) else op for op in codes[0][0][4]])
        self.assertEqual(trace_at(codes, 0, 0, []), (3, (0, 1, 2), (
            (1, "keep", 0, "w"), (2, "keep", 1, None), (3, "move", 1, 0), (4, "work", 0, "rest", 1, 2),
            (5, "same", 0, 1, 2), (6, "cell", 2), (9, "load", 0, 2, "f"), (10, "store", 2, "g", 1), (11, "tell", 0),
            (12, "is", 1, 2))))

    def test_unlesses_go_by_truths(self):
        codes = alone(2, ("turn",), ("unless", 0, 4), ("tell", 0), ("jump", 0), ("unless", 1, 0), ("tell", 1),
                      ("jump", 0))
        self.assertEqual(trace_at(codes, 0, 0, [True])[2], ((1, "so", 0, True), (2, "tell", 0)))
        self.assertEqual(trace_at(codes, 0, 0, [False, False])[2], ((1, "so", 0, False), (4, "so", 1, False)))
        self.assertEqual(trace_at(codes, 0, 0, [False, True])[2],
                         ((1, "so", 0, False), (4, "so", 1, True), (5, "tell", 1)))
        for truths in ([], [False], [True, True], [False, False, False], [True, False, True]):
            with self.subTest(truths):
                self.refuses(codes, 0, truths)

    def test_an_unless_that_leads_out(self):
        self.refuses(LOOP, 1, [False])
        self.refuses(LOOP, 1, [])
        self.refuses(LOOP, 1, [True, True])

    def test_an_empty_way(self):
        codes = alone(1, ("turn",), ("jump", 0))
        self.assertEqual(trace_at(codes, 0, 0, []), (1, (0,), ()))
        self.assertEqual(way_lean(codes, 0, 0, []), (1, (0,), ()))
        self.refuses(codes, 0, [True])
        self.refuses(codes, 0, [False])

    def test_jumps_back_and_onward(self):
        codes = alone(1, ("jump", 4), ("tell", 0), ("jump", 3), ("jump", 4), ("turn",), ("jump", 1))
        self.assertEqual(trace_at(codes, 0, 4, []), (1, (0,), ((1, "tell", 0),)))

    def test_a_way_that_meets_an_op_twice(self):
        codes = alone(1, ("turn",), ("tell", 0), ("unless", 0, 0), ("jump", 1))
        self.refuses(codes, 0, [True, False])
        self.assertEqual(trace_at(codes, 0, 0, [False])[2], ((1, "tell", 0), (2, "so", 0, False)))
        codes = alone(1, ("turn",), ("jump", 2), ("jump", 1))
        self.refuses(codes, 0, [])

    def test_ways_with_other_ops(self):
        bad = [("close", 0, 1), ("call", 0, 0, ()), ("next", 0, 0), ("is", 0, "integer", 0), ("is", 0, "function", 0),
               ("throw", 0), ("end",), ("untry",), ("turn",), ("yield", 0), ("back", 0), ("outer", 0, 1, 0),
               ("into", 1, 0, 0), ("other", 0, 0, 0), ("try", 3, 0)]
        inner = (0, 1, "maker", 0, (("end",),))
        for op in bad:
            with self.subTest(op):
                ops = (("turn",), op, ("jump", 0), ("jump", 0))
                if op == ("untry",):
                    ops = (("try", 0, 0),) + ops
                outer = (0, 1, "module", None, (("end",),)) if op[0] in ("yield", "back", "outer", "into") else None
                if outer is not None:
                    codes = ((outer, (0, 1, "maker", 0, ops)), (0,))
                else:
                    codes = (((0, 1, "module", None, ops), inner), (0,))
                code = 0 if outer is None else 1
                at = ops.index(("turn",))
                with self.assertRaises(NoTrace):
                    trace_at(codes, code, at, [])
        self.assertEqual(len(trace_at(alone(1, ("turn",), ("is", 0, "cell", 0), ("jump", 0)), 0, 0, [])[2]), 1)

    def test_what_is_no_turn(self):
        for op in (0, 2, 3, 4, 5, 6, 7, 8, 100):
            with self.subTest(op):
                self.refuses(LOOP, op, [True])
                self.refuses(LOOP, op, [])
        self.refuses(LOOP, 1, [True], 1)

    def test_a_turn_that_is_not_met(self):
        codes = alone(1, ("end",), ("turn",), ("tell", 0), ("jump", 1), ("turn",), ("tell", 0))
        self.assertTrue(is_sound(codes) and (0, 1) in unmet(codes))
        self.assertEqual(trace_at(codes, 0, 1, [])[2], ((2, "tell", 0),))
        self.refuses(codes, 4, [])

    def test_in_makes_and_makers(self):
        inner = (1, 2, "make", 0, (("turn",), ("unless", 0, 4), ("move", 1, 0), ("jump", 0), ("end",)))
        codes = (((0, 0, "module", None, (("end",),)), inner), (0,))
        self.assertEqual(trace_at(codes, 1, 0, [True]), (2, (0, 1), ((1, "so", 0, True), (2, "move", 1, 0))))

    def test_of_compiled_programs(self):
        many = 0
        for seed in range(60):
            codes = compiled(looping(seed))
            for code in range(len(codes[0])):
                for op, one in enumerate(codes[0][code][4]):
                    for truths in ([], [True], [True, True], [True, False], [True, True, False]):
                        if one != ("turn",):
                            self.refuses(codes, op, truths, code)
                            continue
                        try:
                            trace = trace_at(codes, code, op, truths)
                        except NoTrace:
                            continue
                        many += 1
                        self.assertTrue(is_trace(trace))
                        self.assertEqual([step[3] for step in trace[2] if step[1] == "so"], truths)
        self.assertGreater(many, 60)


class TestTruthsOf(unittest.TestCase):
    def test_of_the_loop(self):
        machine = to_turn(LOOP, 9)
        self.assertEqual(truths_of(machine), [True])
        self.assertEqual((machine.done(), machine.left(), machine.end()), (1, 9, None))
        self.assertEqual(machine.run(), [0])
        self.assertEqual(truths_of(to_turn(LOOP, 9, 3)), [True])
        with self.assertRaises(NoTrace):
            truths_of(to_turn(LOOP, 9, 4))

    def test_machines_that_end_ahead(self):
        with self.assertRaises(NoTrace):
            truths_of(to_turn(LOOP, 0))
        self.assertEqual(truths_of(to_turn(LOOP, 1)), [True])
        with self.assertRaises(NoTrace):
            truths_of(to_turn(LOOP, 1, 2))
        codes = alone(1, ("turn",), ("work", 0, "add", 0, 0), ("jump", 0))
        with self.assertRaises(NoTrace):
            truths_of(to_turn(codes, 5))

    def test_machines_that_are_at_no_turn(self):
        machine = Machine(LOOP, 9)
        with self.assertRaises(NoTrace):
            truths_of(machine)
        machine.run()
        with self.assertRaises(NoTrace):
            truths_of(machine)

    def test_a_machine_that_lacks_the_tick_of_the_next_round_has_come_back(self):
        machine = to_turn(LOOP, 3, 3)
        self.assertEqual((machine.left(), truths_of(machine)), (1, [True]))

    def test_throws_on_the_way(self):
        ops = (("keep", 0, 2), ("try", 6, 0), ("turn",), ("unless", 0, 8), ("load", 0, 0, "f"), ("jump", 2), ("keep", 0, None),
               ("jump", 1), ("end",))
        codes = alone(1, *ops)
        self.assertTrue(is_sound(codes))
        with self.assertRaises(NoTrace):
            truths_of(to_turn(codes, 5))
        ops = (("keep", 0, 2), ("turn",), ("try", 6, 0), ("load", 0, 0, "f"), ("untry",), ("jump", 1), ("keep", 0, None),
               ("jump", 1))
        codes = alone(1, *ops)
        self.assertTrue(is_sound(codes))
        with self.assertRaises(NoTrace):
            truths_of(to_turn(codes, 5))
        ops = (("try", 4, 0), ("turn",), ("throw", 0), ("jump", 1), ("jump", 0))
        with self.assertRaises(NoTrace):
            truths_of(to_turn(alone(1, *ops), 5))
        ops = (("keep", 0, 2), ("try", 5, 0), ("turn",), ("load", 0, 0, "f"), ("jump", 2), ("tell", 0), ("jump", 1))
        codes = alone(1, *ops)
        self.assertTrue(is_sound(codes))
        with self.assertRaises(NoTrace):
            truths_of(to_turn(codes, 5))

    def test_calls_nexts_and_closes_on_the_way(self):
        inner = (0, 1, "make", 0, (("end",),))
        for op in (("close", 0, 1), ("call", 0, 0, ()), ("next", 0, 0)):
            ops = (("close", 0, 1), ("turn",), op, ("close", 0, 1), ("jump", 1))
            with self.assertRaises(NoTrace):
                truths_of(to_turn((((0, 1, "module", None, ops), inner), (0,)), 9))

    def test_a_machine_that_comes_back_in_another_frame(self):
        inner = (1, 2, "make", 0, (("turn",), ("outer", 1, 1, 0), ("call", 1, 1, (0,)), ("back", 0)))
        top = (0, 2, "module", None, (("close", 0, 1), ("keep", 1, 5), ("call", 1, 0, (1,)), ("end",)))
        codes = ((top, inner), (0,))
        self.assertTrue(is_sound(codes))
        with self.assertRaises(NoTrace):
            truths_of(to_turn(codes, 50))

    def test_another_turn_on_the_way(self):
        codes = alone(1, ("turn",), ("turn",), ("jump", 0))
        with self.assertRaises(NoTrace):
            truths_of(to_turn(codes, 50))
        with self.assertRaises(NoTrace):
            truths_of(to_turn(codes, 50, 2))

    def test_a_way_that_meets_an_op_twice(self):
        ops = (("keep", 0, 3), ("keep", 1, 1), ("turn",), ("work", 0, "sub", 0, 1), ("unless", 0, 2), ("jump", 3))
        with self.assertRaises(NoTrace):
            truths_of(to_turn(alone(2, *ops), 50))

    def test_truths_of_nothings_words_and_cells(self):
        for value, truth in ((0, False), (None, False), ("w", True), (-1, True), ((), True)):
            first = ("cell", 0) if value == () else ("keep", 0, value)
            codes = alone(1, first, ("turn",), ("unless", 0, 1), ("jump", 1))
            self.assertEqual(truths_of(to_turn(codes, 3)), [truth])

    def test_they_lead_to_a_trace(self):
        many = 0
        for seed in range(80):
            codes = compiled(looping(seed))
            machine = Machine(codes, 40)
            while machine.end() is None:
                heap = machine.heap()
                frame = heap.get(0, 0)[1]
                code, op = heap.get(frame, -4), heap.get(frame, -5)
                if codes[0][code][4][op] == ("turn",):
                    image = (machine.heap(), machine.told(), machine.done(), machine.left())
                    try:
                        truths = truths_of(machine)
                        many += 1
                    except NoTrace:
                        truths = None
                    self.assertEqual((machine.heap(), machine.told(), machine.done(), machine.left()), image)
                    if truths is not None:
                        self.assertTrue(is_trace(trace_at(codes, code, op, truths)))
                machine.step()
        self.assertGreater(many, 40)


class TestFits(unittest.TestCase):
    TRACE = trace_at(LOOP, 0, 1, [True])

    def test_the_own_and_lean_one(self):
        self.assertIs(fits(LOOP, 0, 1, [True], self.TRACE), True)
        self.assertIs(fits(LOOP, 0, 1, [True], way_lean(LOOP, 0, 1, [True])), True)

    def test_sizes_that_are_greater(self):
        steps = self.TRACE[2]
        self.assertTrue(fits(LOOP, 0, 1, [True], (3, (0, 1), steps)))
        self.assertTrue(fits(LOOP, 0, 1, [True], (5, (0, 1), (steps[0], (0, "cell", 4)) + steps[1:])))
        self.assertFalse(fits(LOOP, 0, 1, [True], (1, (0,), ())))
        self.assertFalse(fits(LOOP, 0, 1, [True], (3, (0, 1), steps + ((0, "move", 1, 2),))))

    def test_other_kept_registers(self):
        for kept in ((), (0,), (1,)):
            self.assertFalse(fits(LOOP, 0, 1, [True], (2, kept, self.TRACE[2])))
        self.assertFalse(fits(LOOP, 0, 1, [True], (3, (0, 1, 2), self.TRACE[2])))
        self.assertFalse(fits(LOOP, 0, 1, [True], (0, (), ())))

    def test_traces_that_do_otherwise(self):
        steps = self.TRACE[2]
        for other in ((), steps[1:], steps[:2], ((3, "so", 0, True),) + steps[1:], (steps[1], steps[0], steps[2])):
            with self.subTest(other):
                self.assertFalse(fits(LOOP, 0, 1, [True], (2, (0, 1), other)))

    def test_no_trace_of_the_way(self):
        self.assertIs(fits(LOOP, 0, 1, [False], self.TRACE), False)
        self.assertIs(fits(LOOP, 0, 2, [True], self.TRACE), False)
        self.assertIs(fits(LOOP, 0, 1, [], self.TRACE), False)


class TestWayLean(unittest.TestCase):
    def test_idle_steps_are_dropped(self):
        ops = (("keep", 0, 3), ("turn",), ("unless", 0, 9), ("move", 1, 0), ("is", 2, "cell", 0), ("keep", 2, 1), ("unless", 1, 9),
               ("work", 0, "sub", 0, 2), ("jump", 1), ("end",))
        codes = alone(3, *ops)
        found = way_lean(codes, 0, 1, [True, True])
        self.assertEqual(found, (3, (0, 1, 2), ((2, "so", 0, True), (3, "move", 1, 0), (5, "keep", 2, 1),
                                                (7, "work", 0, "sub", 0, 2))))

    def test_it_does_the_same_as_the_way(self):
        for seed in range(40):
            codes = compiled(looping(seed))
            for code in range(len(codes[0])):
                for op in [at for at, one in enumerate(codes[0][code][4]) if one == ("turn",)]:
                    try:
                        trace = trace_at(codes, code, op, [True])
                    except NoTrace:
                        continue
                    short = way_lean(codes, code, op, [True])
                    self.assertTrue(do_same(trace, short))
                    self.assertEqual((idle_steps(short), short), ([], lean(trace)))
                    self.assertTrue(fits(codes, code, op, [True], short))


if __name__ == "__main__":
    unittest.main()
