import random
import unittest

from reachkept.compiling import compiled
from reachkept.errors import Over, Wrong
from reachkept.frames import is_state
from reachkept.heaps import Heap
from reachkept.images import alike_machines, image, machine_of, moved
from reachkept.likeness import matched
from reachkept.machines import Machine
from tests.loops import looping
from tests.made import made
from tests.test_journals import ran, state, through
from tests.test_recording import LOOP, alone
from tests.things import STRANGE, changed

MAKER = (1, 2, "maker", 0, (("yield", 0), ("keep", 1, 7), ("end",)))
MAKE = (1, 3, "make", 0, (("cell", 1), ("store", 1, "f", 0), ("back", 1)))
TOP = (0, 5, "module", None, (("close", 0, 1), ("keep", 1, 4), ("call", 2, 0, (1,)), ("close", 3, 2), ("call", 3, 3, (2,)),
                              ("next", 4, 3), ("tell", 4), ("cell", 1), ("keep", 1, 0), ("next", 4, 3), ("end",)))
CODES = ((TOP, MAKE, MAKER), (0,))


def part(thing, place, other):
    return thing[:place] + (other,) + thing[place + 1:]


class TestImage(unittest.TestCase):
    def test_of_a_new_machine(self):
        frame = ((-9, "frame"), (-5, 0), (-4, 0), (-3, None), (-2, None), (-1, None), (0, None), (1, None))
        cells = ((0, ((-9, "root"), (0, ("at", 1)), (1, ("at", 1)))), (1, frame))
        self.assertEqual(image(Machine(LOOP, 9)), (LOOP, cells, (), None, 9, 0))

    def test_behind_the_end(self):
        codes, cells, told, end, left, done = image(through(CODES, 9))
        self.assertEqual((codes, told, end, left, done), (CODES, ("cell",), ("thrown", "over"), 5, 16))
        self.assertEqual(cells[0], (0, ((-9, "root"), (0, None), (1, ("at", 1)))))
        self.assertEqual([number for number, _ in cells], list(range(9)))
        self.assertEqual(image(through(LOOP, 1))[3:5], (("ticks",), 0))

    def test_the_machine_stays_as_it_is(self):
        machine = ran(CODES, 9, 6)
        ahead = state(machine)
        image(machine)
        moved(machine)
        self.assertEqual(state(machine), ahead)


class TestMachineOf(unittest.TestCase):
    def test_each_op_of_runs(self):
        for codes, ticks in ((LOOP, 9), (LOOP, 2), (CODES, 9), (CODES, 1), (compiled(looping(3)), 20), (compiled(made(5)[2]), 9)):
            last = state(through(codes, ticks))
            machine = Machine(codes, ticks)
            while True:
                thing = image(machine)
                other = machine_of(thing)
                self.assertIs(type(other), Machine)
                self.assertEqual((state(other), image(other)), (state(machine), thing))
                if other.end() is None:
                    other.run()
                self.assertEqual(state(other), last)
                if machine.end() is not None:
                    break
                machine.step()

    def test_an_ended_one_is_over(self):
        for ticks in (0, 9):
            machine = machine_of(image(through(LOOP, ticks)))
            for call in (machine.step, machine.run):
                with self.assertRaises(Over):
                    call()

    def test_it_goes_on_by_itself(self):
        machine = ran(CODES, 9, 6)
        other = machine_of(image(machine))
        other.run()
        self.assertEqual(state(machine), state(ran(CODES, 9, 6)))

    def test_new_numbers_are_from_the_greatest_and_one_on(self):
        codes = alone(2, ("cell", 0), ("cell", 1), ("turn",), ("cell", 0), ("end",))
        thing = image(ran(codes, 1, 2))
        cells = tuple((number * 10, rows) for number, rows in thing[1])
        rows = {0: ((-9, "root"), (0, ("at", 10)), (1, ("at", 10)))}
        cells = tuple((number, rows.get(number, inner)) for number, inner in cells)
        frame = tuple((field, ("at", value[1] * 10) if type(value) is tuple else value) for field, value in cells[1][1])
        cells = (cells[0], (10, frame), (20, ()), (30, ()))
        machine = machine_of(part(thing, 1, cells))
        machine.run()
        self.assertEqual(machine.heap().numbers(), [0, 10, 20, 30, 31])
        self.assertEqual(machine.heap().get(10, 0), ("at", 31))

    def test_cells_that_are_not_reached_are_kept(self):
        thing = image(Machine(LOOP, 9))
        more = part(thing, 1, thing[1] + ((4, ()), (7, (("a", ("at", 4)), ("b", ("at", 7))))))
        self.assertEqual(machine_of(more).heap().numbers(), [0, 1, 4, 7])
        self.assertEqual(image(machine_of(more)), more)


class TestWhatIsNoImage(unittest.TestCase):
    def refuses(self, thing):
        with self.assertRaises(Wrong) as caught:
            machine_of(thing)
        self.assertEqual(caught.exception.place, 0)

    def setUp(self):
        self.thing = image(ran(CODES, 9, 8))
        self.over = image(through(CODES, 9))

    def test_strange_things(self):
        for thing in STRANGE + [self.thing[:5], self.thing + (0,), list(self.thing), Machine(LOOP, 1)]:
            self.refuses(thing)
        for place in (0, 1, 3, 4, 5):
            for thing in STRANGE:
                if thing is not None and (place < 4 or type(thing) is not int or thing < 0):
                    self.refuses(part(self.thing, place, thing))
        for thing in [None, 1, "a", [], {}, ([],), (None,), (True,), (Heap(),), ((),)]:
            self.refuses(part(self.thing, 2, thing))

    def test_codes(self):
        for codes in (LOOP, alone(5, ("tell", 0)), (CODES[0], ()), list(CODES), ((TOP, MAKER, MAKE), (0,)),
                      ((TOP, MAKE), (0,))):
            self.refuses(part(self.thing, 0, codes))
        # Ops that are not met, one of which is at fault.
        for op, sound in ((("move", 0, 4), True), (("move", 0, 5), False), (("jump", 99), False), (("close", 0, 0), False)):
            codes = ((TOP[:4] + (TOP[4] + (op,),), MAKE, MAKER), (0,))
            if sound:
                self.assertEqual(image(machine_of(part(self.thing, 0, codes)))[0], codes)
            else:
                self.refuses(part(self.thing, 0, codes))

    def test_cells(self):
        cells = self.thing[1]
        self.assertEqual(image(machine_of(self.thing)), self.thing)
        for other in (cells[1:], cells[:1], cells[:-1], (), cells[::-1], (cells[1], cells[0]) + cells[2:], cells + cells[-1:],
                      list(cells), cells + ((True, ()),), cells + ((99, [])  ,), cells + ((99,),), cells + ((-1, ()),),
                      ((-1, ()),) + cells, cells + ((99, (), ()),)):
            self.refuses(part(self.thing, 1, other))
        for rows in ((("b", 1), ("a", 1)), (("a", 1), ("a", 1)), (("a", 1), ("a", 2)), (("let", 1),), ((0, 1), ("a", 1)), (("a", 1), (0, 1)),
                     (("a",),), ["a"], (["a", 1],), (("a", True),), (("a", "let"),), (("a", ("at", 99)),), (("a", ("at", 0)),),
                     (("a", ("at", -1)),), ((True, 1),), ((0, 1),), ((-9, "root"),), ((-9, "frame"),), (("a", []),)):
            self.refuses(part(self.thing, 1, cells + ((98, rows),)))
        for rows in ((), (("a", 1), ("b", 1)), (("a", ("at", 98)),), (("a", None),), (("a", "w"),)):
            self.assertEqual(machine_of(part(self.thing, 1, cells + ((98, rows),))).heap().numbers()[-1], 98)

    def test_each_part_of_the_cells_otherwise(self):
        taken = 0
        for other in changed(self.thing[1][:3]):
            thing = part(self.thing, 1, other + self.thing[1][3:] if type(other) is tuple else other)
            try:
                machine = machine_of(thing)
            except Wrong as error:
                self.assertEqual(error.place, 0)
                continue
            taken += 1
            self.assertEqual(image(machine), thing)
            self.assertTrue(is_state(CODES, machine.heap()))
        self.assertGreater(taken, 50)

    def test_told(self):
        for told in ([], ["a"], ("let",), (True,), (None,), (("at", 0),), (1, ""), ("Nothing",), ({},), "abc", (1.0,)):
            self.refuses(part(self.thing, 2, told))
        for told in ((), ("nothing", "cell", "function", "generator", "w", 10 ** 39, -1)):
            self.assertEqual(machine_of(part(self.thing, 2, told)).told(), list(told))

    def test_ends(self):
        ends = [("done",), ("thrown", 3), ("thrown", "nothing"), ("thrown", "w")]
        for end in ends:
            self.refuses(part(self.thing, 3, end))
            self.assertEqual(machine_of(part(self.over, 3, end)).end(), end)
        self.refuses(part(self.over, 3, None))
        for end in (("lost",), (), ("done", 1), ("thrown",), ("thrown", None), ("thrown", "let"), ("thrown", True), ("thrown", 1, 2), "done",
                    ["done"], ("ticks", 0), 0, True, False):
            self.refuses(part(self.thing, 3, end))
            self.refuses(part(self.over, 3, end))

    def test_the_end_of_ticks_is_taken_while_something_runs(self):
        machine = machine_of(part(self.thing, 3, ("ticks",)))
        self.assertEqual((machine.end(), machine.left() > 0), (("ticks",), True))
        with self.assertRaises(Over):
            machine.step()

    def test_sizes_that_the_frames_have_not(self):
        for size in (4, 6, 10 ** 6, 10 ** 39):
            codes = ((TOP[:1] + (size,) + TOP[2:], MAKE, MAKER), (0,))
            self.refuses(part(self.thing, 0, codes))
        codes = ((TOP, MAKE, MAKER, (0, 10 ** 39, "make", 0, (("end",),))), (0,))
        self.assertEqual(machine_of(part(self.thing, 0, codes)).left(), self.thing[4])

    def test_left_and_done(self):
        for place in (4, 5):
            for number in (-1, None, True, "1", (1,)):
                self.refuses(part(self.thing, place, number))
            for number in (0, 1, 10 ** 39):
                self.assertEqual(image(machine_of(part(self.thing, place, number)))[place], number)

    def test_errors_change_nothing(self):
        thing = part(self.thing, 3, ("done",))
        copy = tuple(thing)
        self.refuses(thing)
        self.assertEqual(thing, copy)


class TestMoved(unittest.TestCase):
    def test_the_reached_cells_are_numbered_anew(self):
        machine = ran(CODES, 9, 14)
        other = moved(machine)
        self.assertIs(type(other), Machine)
        self.assertEqual(state(other)[1:], state(machine)[1:])
        heap, elder = other.heap(), machine.heap()
        self.assertEqual(heap.numbers(), list(range(len(elder.reached([("at", 0)])))))
        self.assertLess(len(heap), len(elder))
        self.assertIsNotNone(matched(elder, [("at", 0)], heap, [("at", 0)]))
        self.assertTrue(is_state(CODES, heap))

    def test_led_on_beside_the_elder_one(self):
        for seed in range(30):
            codes = compiled(made(seed)[2] if seed % 2 else looping(seed))
            machine = Machine(codes, 12)
            chance = random.Random(seed)
            while machine.end() is None and machine.done() < 100:
                machine.step()
                if chance.random() < 0.2:
                    other, elder = moved(machine), machine.copied()
                    self.assertTrue(alike_machines(other, elder))
                    for _ in range(chance.randint(0, 30)):
                        if elder.end() is None:
                            self.assertEqual(other.step(), elder.step())
                            self.assertEqual(state(other)[1:], state(elder)[1:])
                            self.assertTrue(alike_machines(other, elder))
                            self.assertTrue(is_state(codes, other.heap()))
                    if chance.random() < 0.5:
                        machine = moved(elder)

    def test_moved_ones_and_saved_ones_end_alike(self):
        for seed in range(30):
            codes = compiled(looping(seed))
            plain, machine = through(codes, 30), Machine(codes, 30)
            while machine.end() is None:
                machine.step()
                machine = (moved, lambda one: machine_of(image(one)), lambda one: one.copied())[machine.done() % 3](machine)
            self.assertEqual(state(machine)[1:], state(plain)[1:])

    def test_of_ended_ones(self):
        for ticks in (1, 9):
            machine = through(LOOP, ticks)
            self.assertEqual(state(moved(machine)), state(machine))


class TestAlikeMachines(unittest.TestCase):
    def test_alike(self):
        one, other = Machine(CODES, 9), Machine(CODES, 9)
        while one.end() is None:
            self.assertIs(alike_machines(one, other), True)
            self.assertTrue(alike_machines(one, moved(other)))
            one.step()
            self.assertIs(alike_machines(one, other), False)
            other.step()
        self.assertTrue(alike_machines(one, other))

    def test_how_many_ops_were_done_is_not_looked_at(self):
        thing = image(ran(CODES, 9, 8))
        self.assertTrue(alike_machines(machine_of(thing), machine_of(part(thing, 5, 77))))

    def test_each_other_part_is_looked_at(self):
        thing = image(ran(CODES, 9, 8))
        one = machine_of(thing)
        same = ((TOP[:1] + (6,) + TOP[2:], MAKE, MAKER), (0,))
        longer = ((TOP[:4] + (TOP[4] + (("end",),),), MAKE, MAKER), (0,))
        self.assertFalse(alike_machines(one, machine_of(part(thing, 0, longer))))
        with self.assertRaises(Wrong):
            machine_of(part(thing, 0, same))
        for place, other in ((2, ("w",)), (3, ("ticks",)), (4, 1)):
            with self.subTest(place):
                self.assertFalse(alike_machines(one, machine_of(part(thing, place, other))))
        frame = dict(thing[1][1][1])
        frame[4] = 5
        cells = (thing[1][0], (1, tuple(sorted(frame.items())))) + thing[1][2:]
        self.assertFalse(alike_machines(one, machine_of(part(thing, 1, cells))))

    def test_cells_that_are_not_reached_are_not_looked_at(self):
        thing = image(ran(CODES, 9, 8))
        more = part(thing, 1, thing[1] + ((50, (("a", 1),)),))
        self.assertTrue(alike_machines(machine_of(thing), machine_of(more)))

    def test_sharing_is_looked_at(self):
        shared = alone(2, ("cell", 0), ("move", 1, 0), ("end",))
        thing = image(ran(shared, 0, 2))
        frame = dict(thing[1][1][1])
        frame[1] = ("at", 3)
        cells = (thing[1][0], (1, tuple(sorted(frame.items()))), thing[1][2], (3, ()))
        self.assertFalse(alike_machines(machine_of(thing), machine_of(part(thing, 1, cells))))
        self.assertIsInstance(machine_of(thing).heap(), Heap)


if __name__ == "__main__":
    unittest.main()
