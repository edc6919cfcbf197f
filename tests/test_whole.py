"""One program, many runs: whatever is done on the way, a program tells the same, ends alike, and has as many ticks left."""

import random
import unittest

from reachkept.compiling import compiled
from reachkept.errors import NoTrace
from reachkept.houses import House
from reachkept.images import alike_machines, image, machine_of, moved
from reachkept.journals import Journal
from reachkept.keeping import is_loss, keeps, loss
from reachkept.led import Led
from reachkept.machines import Machine
from reachkept.manners import all_manners
from reachkept.notation import show_codes, show_program
from reachkept.reading import read
from reachkept.readers import read_codes, read_program
from reachkept.recording import trace_at, truths_of, way_lean
from tests.loops import looping
from tests.made import made
from tests.test_led import PLANS

KEEPING = [plan for plan in PLANS if keeps(plan)]


def outcome(machine):
    return (machine.told(), machine.end(), machine.left())


def programs(many):
    """Programs by chance, each with a chance of its own, and ticks."""
    for seed in range(many):
        chance = random.Random(seed)
        program = made(seed)[2] if seed % 3 == 0 else looping(seed)
        yield seed, chance, program, chance.choice([0, 1, 2, 5, 12, 40])


class TestOneProgramManyRuns(unittest.TestCase):
    def test_machines_saved_moved_and_copied_at_any_op(self):
        for seed, chance, program, ticks in programs(120):
            machine = Machine(compiled(program), ticks)
            while machine.end() is None:
                machine.step()
                what = chance.randrange(12)
                if what == 0:
                    machine = machine_of(image(machine))
                if what == 1:
                    machine = moved(machine)
                if what == 2:
                    machine = machine.copied()
            self.assertEqual(outcome(machine), read(program, ticks), seed)
            self.assertEqual(outcome(machine_of(image(moved(machine)))), read(program, ticks))

    def test_journals_taken_back_and_led_on(self):
        for seed, chance, program, ticks in programs(80):
            journal = Journal(compiled(program), ticks)
            for _ in range(15):
                journal.on(chance.choice([1, 7, 30]))
                journal.back(chance.randint(0, min(20, len(journal))))
                if chance.random() < 0.5 and len(journal) > 3:
                    journal.back(2)
                    journal.again()
            machine = machine_of(image(journal.machine()))
            if machine.end() is None:
                machine.run()
            while journal.machine().end() is None:
                journal.to(0, 0)
            self.assertEqual((outcome(machine), outcome(journal.machine())), (read(program, ticks),) * 2, seed)
            self.assertEqual([told for _, told in journal.tellers()], read(program, ticks)[0])
            self.assertTrue(alike_machines(journal.machine(), machine))

    def test_led_machines_with_plans_that_keep_and_traces_laid_on_the_way(self):
        lain = 0
        for seed, chance, program, ticks in programs(200):
            codes = compiled(program)
            schedule = [chance.choice([0, 0, 1, 2, 7, 50]) for _ in range(chance.randint(1, 5))]
            led = Led(codes, ticks, chance.choice(KEEPING), schedule)
            while led.end() is None:
                heap = led.heap()
                frame = heap.get(0, 0)[1]
                code, op = heap.get(frame, -4), heap.get(frame, -5)
                if codes[0][code][4][op] == ("turn",) and chance.random() < 0.5:
                    try:
                        truths = truths_of(led)
                        if len(trace_at(codes, code, op, truths)[2]) < 9:
                            led.lay(code, op, truths, chance.choice([trace_at, way_lean])(codes, code, op, truths))
                            lain += 1
                    except NoTrace:
                        pass
                if chance.random() < 0.1:
                    led = led.copied()
                led.step()
            self.assertEqual((outcome(led), led.lost()), (read(program, ticks), []), (seed, schedule))
        self.assertGreater(lain, 50)

    def test_all_manners(self):
        for seed, chance, program, ticks in programs(100):
            found = all_manners(program, ticks, chance.choice(KEEPING), [chance.choice([0, 1, 9]) for _ in range(3)])
            self.assertEqual(found, [read(program, ticks)] * 4)

    def test_written_and_read_back(self):
        for seed, _, program, ticks in programs(60):
            again = read_program(show_program(program))
            self.assertEqual(read(again, ticks), read(program, ticks))
            machine = Machine(read_codes(show_codes(compiled(program))), ticks)
            machine.run()
            self.assertEqual(outcome(machine), read(program, ticks))

    def test_houses(self):
        for seed, chance, program, ticks in programs(60):
            house = House(program)
            house.do(("plan", chance.choice(KEEPING)))
            house.do(("schedule", (chance.choice([1, 3, 50]), chance.choice([0, 2]))))
            told, end, _ = read(program, ticks)
            house.do(("claim", ticks, tuple(told), end))
            self.assertEqual(house.run(ticks), read(program, ticks))
            self.assertEqual(house.trial([("claim", ticks, tuple(told), end)]).run(ticks), read(program, ticks))

    def test_each_plan_keeps_or_shows_a_loss(self):
        for plan in random.Random(1).sample(PLANS, 300):
            shown = loss(plan)
            self.assertEqual(shown is None, keeps(plan))
            if shown is not None:
                self.assertTrue(is_loss(plan, *shown) and len(shown[0]) <= 4)


if __name__ == "__main__":
    unittest.main()
