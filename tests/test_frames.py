import unittest

from reachkept.checking import faults
from reachkept.frames import chain, is_state, kind_of, told_of
from reachkept.heaps import Heap
from reachkept.machines import Machine

END = ("end",)
GONE = "gone"

# Code 0 is the first module, 1 the second one, 2 a make that calls itself, 3 a maker that calls what it is
# given, 4 a make in the make, 5 a module that is not run, 6 a make that goes on by the next of what it is given.
CODES = ((
    (0, 1, "module", None, (("cell", 0), END)),
    (0, 5, "module", None, (
        ("close", 0, 2), ("close", 1, 3), ("call", 2, 1, (0,)), ("cell", 3), ("store", 3, "f", 2), ("close", 4, 6),
        ("call", 4, 4, (2,)), END, ("tell", 0), END)),
    (0, 2, "make", 1, (("close", 0, 4), ("outer", 1, 1, 0), ("call", 1, 1, ()), END)),
    (1, 2, "maker", 1, (("keep", 1, 5), ("yield", 1), ("call", 1, 0, ()), ("yield", 1), END)),
    (0, 1, "make", 2, (END,)),
    (0, 0, "module", None, (END,)),
    (1, 2, "make", 1, (("next", 1, 0), ("next", 1, 0), ("back", 1))),
), (0, 1))


def states(ticks=50):
    """Return the list of the heaps of a run, one behind another."""
    machine = Machine(CODES, ticks)
    found = [machine.heap()]
    while machine.end() is None:
        machine.step()
        found.append(machine.heap())
    return found


def sort(heap, number):
    return heap.fields(number).get(-9)


def numbers(heap, word):
    return [number for number in heap.numbers() if sort(heap, number) == word]


def frames_of(heap, code):
    return [number for number in numbers(heap, "frame") if heap.get(number, -4) == code]


def longest():
    """Return the first heap of the run with the most frames that run or wait."""
    return max(states(), key=lambda heap: len(chain(heap)))


class Frames(unittest.TestCase):
    def refuses(self, heap, number, **changes):
        """Each change of a field, F for those below nought, makes the heap no state."""
        for field, values in changes.items():
            field = int(field[1:]) * (-1 if field[0] == "F" else 1) if field[1:].isdigit() else field
            for value in values:
                self.assertIs(self.put(heap, (number, field, value)), False, (number, field, value))

    def put(self, heap, *rows):
        """Whether a heap is a state if fields have other values; GONE is at a cell that is gone."""
        other = heap.copied()
        for number, field, value in rows:
            gone = other.new({})
            other.put(number, field, ("at", gone) if value == GONE else value)
            other.free([gone])
        return is_state(CODES, other)


class TestKinds(unittest.TestCase):
    def test_kinds(self):
        heap = Heap()
        cells = [{}, {"a": 1}, {-9: "closure", 0: 1, 1: None}, {-9: "stepper", 0: None, 1: 0}]
        numbers = [heap.new(fields) for fields in cells]
        values = [0, -(10 ** 30), "w", "closure", None] + [("at", number) for number in numbers]
        self.assertEqual([kind_of(heap, value) for value in values],
                         ["integer", "integer", "word", "word", "nothing", "cell", "cell", "function", "generator"])
        self.assertEqual([told_of(heap, value) for value in values],
                         [0, -(10 ** 30), "w", "closure", "nothing", "cell", "cell", "function", "generator"])

    def test_chain(self):
        for heap in states():
            found = []
            value = heap.get(0, 0)
            while value is not None:
                found.append(value[1])
                value = heap.get(value[1], -2)
            self.assertEqual(chain(heap), found)
        self.assertEqual([chain(states()[0]), chain(states()[-1])], [[1], []])
        self.assertEqual(len(chain(longest())), 31)


class TestStates(Frames):
    def test_all_states_of_runs(self):
        self.assertEqual(faults(CODES), [])
        for ticks in [0, 1, 2, 3, 7, 50]:
            for heap in states(ticks):
                self.assertIs(is_state(CODES, heap), True)

    def test_no_root(self):
        self.assertIs(is_state(CODES, Heap()), False)
        heap = Heap()
        heap.new({})
        self.assertIs(is_state(CODES, heap), False)
        heap = longest()
        heap.free([0])
        self.assertIs(is_state(CODES, heap), False)

    def test_a_root(self):
        heap = longest()
        for fields in [{-9: "root"}, {-9: "root", 0: None, 1: None, 2: None}]:
            other = heap.copied()
            other.new(fields)
            self.assertIs(is_state(CODES, other), False)
        self.refuses(heap, 0, F9=["frame", "stepper", 0, None, "roots"], G3=[None, ("at", 1)], F1=[None], F8=[0])
        lacking = Heap()
        lacking.new({-9: "root", 0: None, 1: None})
        self.assertIs(is_state(CODES, lacking), False)

    def test_b_modules_that_have_begun(self):
        first, last = states()[0], states()[-1]
        self.refuses(first, 0, G1=[None, ("at", 0), 1, "w", GONE], G2=[("at", 1), 1, GONE])
        one, two = [heap.get(0, 1) for heap in (first, last)][1], last.get(0, 2)
        self.assertIs(self.put(last, (0, 1, two), (0, 2, one)), False)
        self.assertIs(self.put(last, (0, 1, two)), False)
        self.assertIs(self.put(last, (0, 1, None)), False)
        heap = longest()
        self.assertIs(self.put(heap, (0, 1, ("at", frames_of(heap, 2)[0]))), False)

    def test_b_modules_behind_one_that_has_not_begun(self):
        some = (tuple((0, 0, "module", None, (END,)) for _ in range(3)), (2, 0, 1))
        heap = Machine(some, 0).heap()
        self.assertIs(is_state(some, heap), True)
        for value in [0, "w", ("at", 0), ("at", 1)]:
            for field in (2, 3):
                other = heap.copied()
                other.put(0, field, value)
                self.assertIs(is_state(some, other), False)

    def test_c_fields_of_frames(self):
        heap = longest()
        for code in [0, 1, 2, 3, 6]:
            number = frames_of(heap, code)[0]
            size = CODES[0][code][1]
            self.refuses(heap, number, F4=[None, -1, 7, "w", 5, ("at", 0)], F5=[None, -1, 99, "w", ("at", 0)],
                         F8=[None], F6=[0])
            self.assertIs(self.put(heap, (number, size, None)), False)
            self.assertIs(self.put(heap, (number, size - 1, None)), True)
            lacking = Heap()
            for _ in heap.numbers():
                lacking.new({})
            for other in heap.numbers():
                for field, value in heap.fields(other).items():
                    if (other, field) != (number, size - 1):
                        lacking.put(other, field, value)
            self.assertIs(is_state(CODES, lacking), False)
        # An op that is not met.
        self.assertIs(self.put(states()[-1], (frames_of(heap, 1)[0], -5, 9)), False)
        self.assertIs(self.put(states()[-1], (frames_of(heap, 1)[0], -5, 6)), True)

    def test_c_frames_around(self):
        heap = longest()
        one, two = frames_of(heap, 0)[0], frames_of(heap, 1)[0]
        self.refuses(heap, one, F1=[("at", two), ("at", 0), 0])
        self.refuses(heap, two, F1=[("at", one), ("at", two)])
        for code in [2, 3, 6]:
            number = frames_of(heap, code)[0]
            self.refuses(heap, number, F1=[None, 1, "w", ("at", one), ("at", number), ("at", 0), GONE,
                                           ("at", numbers(heap, "closure")[0])])

    def test_c_generators_of_frames(self):
        heap = longest()
        stepper = ("at", numbers(heap, "stepper")[0])
        for code in [0, 1, 2, 6]:
            self.refuses(heap, frames_of(heap, code)[0], F3=[stepper, 0, ("at", 0)])
        self.refuses(heap, frames_of(heap, 3)[0], F3=[None, 0, ("at", 0), ("at", numbers(heap, "closure")[0]), GONE])
        # The frame of a generator that is over still has it.
        heap = states()[-1]
        number = numbers(heap, "stepper")[0]
        heap.put(number, 0, None)
        self.assertIs(is_state(CODES, heap), True)
        self.refuses(heap, frames_of(heap, 3)[0], F3=[None, 0, "w", ("at", 0), ("at", numbers(heap, "closure")[0]), GONE])

    def test_c_a_frame_of_a_module_that_the_root_does_not_name(self):
        heap = states()[-1]
        fields = heap.fields(heap.get(0, 1)[1])
        heap.new(fields)
        self.assertIs(is_state(CODES, heap), False)
        heap = states()[-1]
        heap.new({-9: "frame", -5: 0, -4: 5, -3: None, -2: None, -1: None})
        self.assertIs(is_state(CODES, heap), False)

    def test_d_functions(self):
        heap = longest()
        functions = numbers(heap, "closure")
        for number in functions:
            code = heap.get(number, 0)
            self.refuses(heap, number, F9=["thing", None, 3], G0=[None, -1, 7, 0, 1, 5, "w"], G2=[None], F1=[0],
                         G1=[None, 0, ("at", 0), ("at", number), GONE, heap.get(0, 1)])
            around = CODES[0][code][3]
            for other in numbers(heap, "frame"):
                self.assertIs(self.put(heap, (number, 1, ("at", other))), heap.get(other, -4) == around)
            for other in range(7):
                fits = other not in (0, 1, 5) and CODES[0][other][3] == around
                self.assertIs(self.put(heap, (number, 0, other)), fits)

    def test_e_generators(self):
        for heap in (longest(), states(3)[-1], states(1)[-1], states()[-1]):
            number = numbers(heap, "stepper")[0]
            frame = frames_of(heap, 3)[0]
            self.refuses(heap, number, F9=["closure", None], G1=[2, -1, None, "w", 1 - heap.get(number, 1)], G2=[0],
                         G0=[0, "w", ("at", 0), ("at", number), GONE, heap.get(0, 1), ("at", frames_of(heap, 2)[0])
                             if frames_of(heap, 2) else 1])
            running = frame in chain(heap)
            self.assertIs(self.put(heap, (number, 0, None), (number, 1, 0)), True)
            self.assertIs(self.put(heap, (number, 0, None), (number, 1, 1)), False)
            self.assertIs(self.put(heap, (number, 0, ("at", frame)), (number, 1, 1 if running else 0)), True)
            self.assertIs(self.put(heap, (number, 0, ("at", frame)), (number, 1, 0 if running else 1)), False)

    def test_e_a_frame_of_another_generator(self):
        heap = states(3)[-1]
        other = heap.new({-9: "stepper", 0: None, 1: 0})
        self.assertIs(is_state(CODES, heap), True)
        frame = heap.get(numbers(heap, "stepper")[0], 0)
        heap.put(other, 0, frame)
        self.assertIs(is_state(CODES, heap), False)

    def test_f_rings(self):
        heap = longest()
        waiting = chain(heap)
        for number in waiting:
            self.assertIs(self.put(heap, (waiting[-1], -2, ("at", number))), False)
            self.assertIs(self.put(heap, (waiting[-2], -2, ("at", number))), number == waiting[-1])

    def test_f_the_end_of_the_chain(self):
        heap = longest()
        waiting = chain(heap)
        self.assertIs(self.put(heap, (waiting[-2], -2, None)), False)
        # Of the module begun first, not last.
        self.assertIs(self.put(states()[-1], (0, 0, states()[-1].get(0, 1))), False)
        self.assertIs(self.put(states()[-1], (0, 0, states()[-1].get(0, 2))), True)
        self.refuses(states()[-1], 0, G0=[0, "w", ("at", 0), GONE, ("at", numbers(heap, "closure")[0])])
        self.refuses(heap, waiting[3], F2=[0, "w", ("at", 0), GONE, ("at", numbers(heap, "closure")[0]), None])

    def test_f_thirty_frames_and_one_more(self):
        heap = longest()
        self.assertEqual([len(chain(heap)), is_state(CODES, heap)], [31, True])
        first = chain(heap)[0]
        # The last frame waits for one more, at its call.
        frame = heap.fields(first)
        heap.put(first, -5, 2)
        inner = heap.new(frame)
        heap.put(inner, -2, ("at", first))
        self.assertIs(is_state(CODES, heap), False)
        heap.put(inner, -2, None)
        self.assertIs(is_state(CODES, heap), True)
        heap.put(0, 0, ("at", inner))
        heap.put(inner, -2, ("at", first))
        self.assertEqual([len(chain(heap)), is_state(CODES, heap)], [32, False])

    def test_f_ops_at_which_frames_wait(self):
        heap = longest()
        waiting = chain(heap)
        for awaited, number in zip(waiting, waiting[1:]):
            code = CODES[0][heap.get(number, -4)]
            wanted = {"make": "call", "maker": "next"}[CODES[0][heap.get(awaited, -4)][2]]
            for at in range(len(code[4]) - (2 if heap.get(number, -4) == 1 else 0)):
                self.assertIs(self.put(heap, (number, -5, at)), code[4][at][0] == wanted, (number, at))

    def test_f_no_frame_waits_for_one_of_a_module(self):
        heap = states()[-1]
        one, two = heap.get(0, 1)[1], heap.get(0, 2)[1]
        make = frames_of(heap, 6)[0]
        self.assertIs(self.put(heap, (0, 0, ("at", two)), (two, -2, ("at", one))), False)
        self.assertIs(self.put(heap, (0, 0, ("at", one)), (one, -2, ("at", two)), (two, -5, 2)), False)
        self.assertIs(self.put(heap, (0, 0, ("at", two)), (two, -2, ("at", make)), (make, -5, 0)), False)

    def test_f_frames_outside_of_the_chain(self):
        heap = states()[-1]
        for number in numbers(heap, "frame"):
            for other in numbers(heap, "frame")[:3]:
                self.assertIs(self.put(heap, (number, -2, ("at", other))), False)

    def test_g_other_cells(self):
        for fields in [{-9: "thing"}, {0: 1}, {-9: None}, {-9: 1}, {-1: None}, {-9: "w", 0: None, 1: 0}]:
            heap = longest()
            heap.new(fields)
            self.assertIs(is_state(CODES, heap), False)
        for fields in [{}, {"a": 1}, {"a": None, "root": "frame"}, {"a": ("at", numbers(longest(), "closure")[0])}]:
            heap = longest()
            heap.new(fields)
            self.assertIs(is_state(CODES, heap), True)

    def test_g_values(self):
        heap = longest()
        frame, cell = frames_of(heap, 2)[0], heap.get(frames_of(heap, 1)[0], 3)[1]
        for value in [0, -(10 ** 35), "w", None, ("at", cell), ("at", numbers(heap, "closure")[1]),
                      ("at", numbers(heap, "stepper")[0])]:
            self.assertIs(self.put(heap, (frame, 1, value), (cell, "g", value)), True)
        for value in [("at", 0), ("at", frame), heap.get(0, 1), GONE]:
            self.assertIs(self.put(heap, (frame, 0, value)), False)
            self.assertIs(self.put(heap, (frame, 1, value)), False)
            self.assertIs(self.put(heap, (cell, "g", value)), False)
        # A cell that is gone, of which something is left.
        heap.put(frame, 1, ("at", heap.new({})))
        self.assertIs(is_state(CODES, heap), True)
        heap.free([heap.numbers()[-1]])
        self.assertIs(is_state(CODES, heap), False)

    def test_ended_runs(self):
        self.assertIs(is_state(CODES, states()[-1]), True)
        throws = (((0, 1, "module", None, (("throw", 0),)), (0, 1, "module", None, (END,))), (0, 1))
        machine = Machine(throws, 0)
        machine.run()
        heap = machine.heap()
        self.assertEqual([heap.get(0, 0), heap.get(0, 1), heap.get(0, 2), is_state(throws, heap)], [None, ("at", 1), None, True])
        heap.put(0, 0, ("at", 1))
        self.assertIs(is_state(throws, heap), True)

    def test_the_heap_stays(self):
        heap = longest()
        other = heap.copied()
        is_state(CODES, heap)
        chain(heap).append(3)
        self.assertEqual(heap, other)


if __name__ == "__main__":
    unittest.main()
