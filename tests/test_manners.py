import random
import unittest
import unittest.mock

from reachkept.compiling import compiled
from reachkept.errors import NoTrace
from reachkept.keeping import keeps
from reachkept.led import Led
from reachkept.manners import all_manners, greatest, ran_led, ran_traced
from reachkept.programs import Program
from reachkept.reading import read
from reachkept.recording import trace_at, truths_of
from reachkept.runs import ran
from reachkept.shortening import lean
from tests.follower import Follower
from tests.loops import looping
from tests.made import made
from tests.test_led import BARE, KEPT, PLANS
from tests.things import NOTHING, call, integer, name, word, work

KEEPING = [plan for plan in PLANS if keeps(plan)]
WEAK = ("whole", "once", "white", (), (), ())


def main(*body):
    return Program({"top": ((), (), tuple(body))}, "top")


def down(own):
    return ("put", own, work("sub", name(own), integer(1)))


COUNT = main(("let", "n", integer(4)), ("while", name("n"), (("tell", name("n")), down("n"))), ("tell", word("w")))


def second(led, codes, plan_of_lean=lean):
    """Goes on as [92] tells, written in another way: by the public calls of Led machines alone."""
    met, laid = {}, []
    while led.end() is None:
        heap = led.heap()
        frame = heap.get(0, 0)[1]
        code, op = heap.get(frame, -4), heap.get(frame, -5)
        ahead = led.left()
        # A trace is next where the turn was done just now; its op is none of the code's then.
        if codes[0][code][4][op] == ("turn",):
            met[frame, op] = met.get((frame, op), 0) + 1
            if met[frame, op] == 2 and (code, op) not in led.laid():
                try:
                    truths = truths_of(led)
                    trace = trace_at(codes, code, op, truths)
                except NoTrace:
                    trace = None
                if trace is not None and trace[0] <= 6 and len(trace[2]) <= 7:
                    if len([step for step in trace[2] if step[1] in ("load", "store")]) <= 4:
                        led.lay(code, op, truths, lean(trace))
                        laid.append((code, op))
        led.step()
        if codes[0][code][4][op] == ("turn",) and (code, op) in led.laid() and led.end() is None:
            led.step()
        assert led.left() <= ahead
    return (led.told(), led.end(), led.left()), laid


class TestTheManners(unittest.TestCase):
    def test_four_alike(self):
        expected = ([4, 3, 2, 1, "w"], ("done",), 5)
        self.assertEqual(all_manners(COUNT, 10, KEPT, (1,)), [expected] * 4)
        self.assertEqual(ran_led(COUNT, 10, KEPT, [1]), expected)
        self.assertEqual(ran_traced(COUNT, 10, KEPT, [1]), expected)

    def test_few_ticks(self):
        for ticks in range(7):
            expected = read(COUNT, ticks)
            self.assertEqual(all_manners(COUNT, ticks, KEPT, (0, 3)), [expected] * 4)

    def test_their_order(self):
        program = main(("let", "c", NOTHING), ("let", "n", integer(9)), ("while", name("n"), (
            ("put", "c", ("cell", (("f", name("c")),))), down("n"))), ("tell", word("w")))
        found = [all_manners(program, 50, WEAK, (one, two)) for one in range(4) for two in range(4)]
        for read_one, ran_one, led, traced in found:
            self.assertEqual(read_one, (["w"], ("done",), 40))
            self.assertEqual(ran_one, read_one)
        self.assertTrue([led for _, _, led, _ in found if led[1] == ("lost",)])
        self.assertTrue([led for _, _, led, traced in found if led != traced])

    def test_tuples(self):
        for one in all_manners(COUNT, 3, KEPT, (1,)) + [ran_led(COUNT, 3, KEPT, (1,)), ran_traced(COUNT, 3, KEPT, (1,))]:
            self.assertIs(type(one), tuple)
            self.assertEqual([type(part) for part in one], [list, tuple, int])

    def test_all_plans_that_keep(self):
        chance = random.Random(8)
        for seed in range(200):
            program = looping(seed) if seed % 2 else made(seed)[2]
            ticks = chance.choice([0, 1, 3, 10, 60, 300])
            schedule = [chance.choice([0, 1, 2, 5, 50]) for _ in range(chance.randint(1, 4))]
            found = all_manners(program, ticks, chance.choice(KEEPING), schedule)
            self.assertEqual(found, [found[0]] * 4, seed)
            self.assertEqual(found[0], read(program, ticks))
            self.assertEqual(found[1], ran(program, ticks))

    def test_plans_that_lose(self):
        chance = random.Random(9)
        lost = 0
        for seed in range(200):
            program = looping(seed)
            plan, schedule = chance.choice(PLANS), [chance.choice([0, 1, 2, 5, 50]) for _ in range(chance.randint(1, 3))]
            other = Follower(compiled(program), 20, plan, schedule)
            told = []
            while other.end() is None:
                told += other.step()
            self.assertEqual(ran_led(program, 20, plan, schedule), (told, other.end(), other.machine.left()))
            lost += other.end() == ("lost",)
            if other.end() == ("lost",):
                self.assertEqual(told, ran(program, 20)[0][:len(told)])
        self.assertGreater(lost, 5)

    def test_modules(self):
        function = ("make", ("n",), (("let", "s", integer(0)), ("while", name("n"), (
            ("put", "s", work("add", name("s"), name("n"))), down("n"))), ("back", name("s"))))
        modules = {
            "low": ((), ("f",), (("let", "f", function),)),
            "mid": ((("low", "f", "g"),), ("h",), (("let", "h", name("g")),)),
            "side": ((("low", "f", "g"),), (), (("tell", call(name("g"), integer(3))),)),
            "top": ((("mid", "h", "h"), ("low", "f", "f")), (), (("tell", call(name("h"), integer(4))),
                                                               ("tell", call(name("f"), integer(5))))),
        }
        for home in modules:
            program = Program(modules, home)
            for ticks in (0, 3, 20):
                for plan in (KEPT, ("fields", "again", "white", ("back",), ("back",), ())):
                    found = all_manners(program, ticks, plan, (1, 0, 4))
                    self.assertEqual(found, [read(program, ticks)] * 4)


class TestRanTraced(unittest.TestCase):
    def laid_by(self, program, ticks=50, plan=KEPT, schedule=(1,)):
        codes = compiled(program)
        found, laid = second(Led(codes, ticks, plan, schedule), codes)
        plain, traces = Led.lay, []

        def lay(led, code, op, truths, trace):
            traces.append((code, op))
            self.assertEqual(trace, lean(trace_at(codes, code, op, truths)))
            return plain(led, code, op, truths, trace)

        with unittest.mock.patch.object(Led, "lay", lay):
            self.assertEqual(ran_traced(program, ticks, plan, schedule), found)
        self.assertEqual(traces, laid)
        return laid

    def test_it_lays_at_the_second_time(self):
        # With a plan that loses and the cells of a trace at once, it can be seen that traces lie.
        self.assertEqual(len(self.laid_by(COUNT)), 1)
        self.assertEqual(self.laid_by(main(("let", "n", integer(1)), ("while", name("n"), (down("n"),)))), [])
        self.assertEqual(len(self.laid_by(main(("let", "n", integer(2)), ("while", name("n"), (down("n"),))))), 1)

    def test_in_the_same_frame(self):
        function = ("make", ("n",), (("while", name("n"), (down("n"),)),))
        once = tuple(("do", call(name("f"), integer(1))) for _ in range(4))
        self.assertEqual(self.laid_by(main(("let", "f", function), *once)), [])
        self.assertEqual(len(self.laid_by(main(("let", "f", function), *once, ("do", call(name("f"), integer(2))), *once))), 1)

    def test_small_traces_alone(self):
        tells = lambda many: main(("let", "n", integer(5)), ("while", name("n"), (("tell", name("n")),) * many + (down("n"),)))
        steps = [many for many in range(1, 9) if self.laid_by(tells(many))]
        self.assertEqual(steps, [1, 2, 3, 4])
        stores = lambda many: main(("let", "n", integer(5)), ("let", "c", ("cell", ())), ("while", name("n"), (
            ("store", name("c"), "f", name("n")),) * many + (down("n"),)))
        self.assertEqual([many for many in range(1, 9) if self.laid_by(stores(many))], [1, 2, 3, 4])
        names = lambda many: main(("let", "n", integer(5)), *[("let", "abcdefgh"[at], integer(1)) for at in range(many)],
                                  ("while", name("n"), (down("n"),)))
        sizes = {many: compiled(names(many))[0][0][1] for many in range(9)}
        self.assertEqual([many for many in range(9) if self.laid_by(names(many))], [many for many in range(9) if sizes[many] <= 6])
        self.assertIn(6, sizes.values())

    def test_loads_and_stores_count_together(self):
        loads = lambda many, more: main(("let", "n", integer(5)), ("let", "c", ("cell", (("f", integer(1)),))), ("while", name("n"), (
            ("store", name("c"), "f", name("n")),) * many + (("let", "a", ("field", name("c"), "f")),) * more + (down("n"),)))
        self.assertEqual([(many, more) for many in range(5) for more in range(5) if self.laid_by(loads(many, more))],
                         [(many, more) for many in range(5) for more in range(5 - many)])

    def test_five_loads_and_stores_among_seven_steps_are_too_many(self):
        ever = lambda stores, loads: main(("let", "c", ("cell", (("f", integer(1)),))), ("let", "n", integer(5)), ("while", integer(1), (
            ("store", name("c"), "f", name("n")),) * stores + (("put", "n", ("field", name("c"), "f")),) * loads))
        for stores in range(6):
            for loads in range(6 - stores):
                self.assertEqual(len(self.laid_by(ever(stores, loads))), 1 if stores + loads <= 4 else 0, (stores, loads))

    def test_ways_that_do_not_come_back(self):
        function = ("make", (), ())
        self.assertEqual(self.laid_by(main(("let", "f", function), ("let", "n", integer(5)), ("while", name("n"), (
            ("do", call(name("f"))), down("n"))))), [])
        self.assertEqual(self.laid_by(COUNT, 1), [])
        self.assertEqual(len(self.laid_by(COUNT, 2)), 1)

    def test_a_way_on_which_cells_are_lost_is_none(self):
        chance = random.Random(10)
        lost = unlike = 0
        for seed in range(300):
            program = looping(seed)
            plan, schedule = chance.choice(PLANS), [chance.choice([0, 1, 2, 5]) for _ in range(chance.randint(1, 4))]
            self.laid_by(program, 30, plan, schedule)
            traced, led = ran_traced(program, 30, plan, schedule), ran_led(program, 30, plan, schedule)
            lost += traced[1] == ("lost",)
            unlike += traced != led
        self.assertGreater(lost, 5)
        self.assertGreater(unlike, 0)


class TestGreatest(unittest.TestCase):
    def test_of_small_runs(self):
        self.assertEqual(greatest(main(), 5, KEPT, (0,)), 2)
        self.assertEqual(greatest(main(("do", ("cell", ())), ("do", ("cell", ()))), 5, KEPT, (0,)), 4)
        self.assertEqual(greatest(main(("do", ("cell", ())), ("do", ("cell", ()))), 5, KEPT, (50,)), 3)

    def test_of_a_run_without_an_op(self):
        self.assertEqual(greatest(main(("while", integer(1), ())), 0, KEPT, (1,)), 0)
        self.assertEqual(greatest(main(("while", integer(1), ())), 1, KEPT, (1,)), 2)

    def test_cells_behind_the_collectors_steps(self):
        chance = random.Random(11)
        for seed in range(80):
            program = looping(seed)
            plan, schedule = chance.choice(PLANS), [chance.choice([0, 1, 5, 50]) for _ in range(chance.randint(1, 3))]
            other = Follower(compiled(program), 10, plan, schedule)
            most = 0
            while other.end() is None:
                done = other.machine.done()
                other.step()
                if other.machine.done() > done:
                    most = max(most, len(other.collector.cells))
            self.assertEqual(greatest(program, 10, plan, schedule), most)


if __name__ == "__main__":
    unittest.main()
