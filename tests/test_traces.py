import unittest

from reachkept.heaps import Heap
from reachkept.traces import gone, is_start, is_trace
from tests.test_courses import at, made
from tests.things import STRANGE, changed

WORKS = ["add", "less", "mul", "quo", "rest", "sub"]
STEPS = [
    (0, "keep", 0, 5), (10 ** 30, "keep", 1, "w"), (0, "keep", 0, None), (0, "keep", 2, -(10 ** 40)), (0, "move", 0, 1), (0, "same", 0, 1, 2),
    (0, "is", 0, 1), (0, "cell", 0), (0, "load", 0, 1, "f"), (0, "store", 0, "f", 1), (0, "tell", 0), (0, "so", 0, True), (0, "so", 0, False),
    (0, "alike", 0, 1, True), (0, "alike", 0, 0, False), (0, "kind", 0, True), (7, "kind", 2, False),
] + [(0, "work", 0, op, 1, 2) for op in WORKS]

# What stands behind the words: "r" for registers, "v" for plain values, "o" for ops of works, "f" for fields, "t" for truths.
PARTS = {"keep": "rv", "move": "rr", "work": "rorr", "same": "rrr", "is": "rr", "cell": "r", "load": "rrf", "store": "rfr", "tell": "r",
         "so": "rt", "alike": "rrt", "kind": "rt"}
GOOD = {"r": [0, 1, 2], "v": [0, -5, "w", "at", None, 10 ** 39], "o": WORKS, "f": ["f", "abcdefgh"], "t": [True, False]}
BAD = {"r": [-1, 3, True, False, None, "a", (), [0], (0,), 10 ** 30], "v": [True, False, "let", "", "abcdefghi", (), [], at(0), {}],
       "o": ["same", "div", "", None, 0, ["add"], "is", True], "f": ["let", "", "F", 0, None, True, ["f"], ("f",)],
       "t": [0, 1, None, "yes", "", (), [True]]}


class TestIsTrace(unittest.TestCase):
    def test_each_step(self):
        for step in STEPS:
            for steps in [(step,), (step, step), (STEPS[0], step)]:
                self.assertIs(is_trace((3, (0, 1), steps)), True, step)
            for wrong in [list(step), step + (0,), step[:-1], (-1,) + step[1:], (True,) + step[1:], (None,) + step[1:], step[1:], (0,) + step,
                          ("0",) + step[1:], (0, [step[1]]) + step[2:]]:
                self.assertIs(is_trace((3, (), (wrong,))), False, wrong)

    def test_each_part_of_each_step(self):
        for word, parts in PARTS.items():
            base = [GOOD[part][0] for part in parts]
            for index, part in enumerate(parts):
                for thing in GOOD[part]:
                    self.assertIs(is_trace((3, (), ((0, word, *base[:index], thing, *base[index + 1:]),))), True)
                for thing in BAD[part]:
                    self.assertIs(is_trace((3, (), ((0, word, *base[:index], thing, *base[index + 1:]),))), False, (word, index, thing))
            for size in (0, 3):
                self.assertIs(is_trace((size, (), ((0, word, *base),))), size == 3)

    def test_other_words(self):
        for word in ["jump", "turn", "close", "call", "unless", "end", "", None, 0, True, ["keep"], ("keep",), "Keep"]:
            for rest in [(), (0,), (0, 0), (0, 0, 0), (0, True)]:
                self.assertIs(is_trace((3, (), ((0, word, *rest),))), False)

    def test_sizes_and_kept_registers(self):
        for size, kept, expected in [
                (0, (), True), (1, (0,), True), (3, (0, 1, 2), True), (3, (2,), True), (10 ** 30, (7,), True), (1, (1,), False), (0, (0,), False),
                (3, (1, 0), False), (3, (0, 0), False), (3, [0], False), (3, (True,), False), (3, (-1,), False), (3, None, False), (-1, (), False),
                (True, (), False), (None, (), False), ("3", (), False), (3, (0, None), False), (3, ("a",), False), (3, ((0,),), False),
                (3, 0, False), (3, {}, False)]:
            self.assertIs(is_trace((size, kept, ())), expected, (size, kept))

    def test_any_value_is_taken(self):
        for thing in STRANGE + [(3, ()), [3, (), ()], (3, (), [], ()), (3, (), []), (3, (), None), (3, (), ((),)), (3, (), (None,)), (3, (), ((0,),))]:
            self.assertIs(is_trace(thing), False, thing)
        for thing in changed((3, (0, 2), (STEPS[0], STEPS[8], STEPS[13]))):
            self.assertIs(type(is_trace(thing)), bool)


class TestIsStart(unittest.TestCase):
    def test_starts(self):
        heap = made({"f": at(1), "g": 5}, {})
        for start in [(Heap(), [0, "w", None], {}), (heap, [at(1), at(0), at(1)], {}), (heap, [0, 0, 0], {("add", 0, "w"): None, ("sub", None, 0): "v"}),
                      (heap, [10 ** 39, -1, "at"], {(op, 1, 2): 3 for op in WORKS})]:
            self.assertIs(is_start(3, start), True)
            self.assertIs(is_start(2, start), False)
            self.assertIs(is_start(4, start), False)
        self.assertIs(is_start(0, (Heap(), [], {})), True)

    def test_wrong_heaps(self):
        for heap in [{}, None, [], made({0: 1}), made({"f": 1}, {-9: "frame"}), "heap"]:
            self.assertIs(is_start(1, (heap, [0], {})), False)
        heap = made({"f": at(1)}, {})
        heap.free([1])
        self.assertIs(is_start(1, (heap, [0], {})), False)
        heap.put(0, "f", 0)
        self.assertIs(is_start(1, (heap, [0], {})), True)
        self.assertIs(is_start(1, (heap, [at(1)], {})), False)

    def test_wrong_values(self):
        for values in [[True], (0,), [0, 0], [], [at(0)], [at(True)], ["let"], [()], None, {0: 1}, "w", [["at", 0]], [Heap()], [at(-1)]]:
            self.assertIs(is_start(1, (Heap(), values, {})), False, values)

    def test_wrong_meanings(self):
        for meaning in [None, [], (), {("same", 1, 1): 1}, {("add", 1): 1}, {("add", 1, 1, 1): 1}, {("add", True, 1): 1}, {("add", 1, 1): True},
                        {("add", 1, at(0)): 1}, {("add", 1, 1): at(0)}, {"add": 1}, {("add", 1, "let"): 1}, {("add", 1, 1): "let"}, {0: 1}, {("add", 1, 1): []},
                        {("add", (), 1): 1}, {("is", 1, 1): 1}, {(None, 1, 1): 1}, {("add", 1, 1): 2, ("div", 1, 1): 2}]:
            self.assertIs(is_start(1, (made({}), [0], meaning)), False, meaning)

    def test_any_value_is_taken(self):
        start = (Heap(), [0], {})
        for thing in STRANGE + [list(start), start[:2], start + (0,)] + changed(((), (0,), ())):
            self.assertIs(is_start(1, thing), False)


class TestGone(unittest.TestCase):
    def goes(self, steps, values, expected, heap=None, meaning=None, kept=()):
        """Expected is a tuple (exit, told, values, cells)."""
        heap = made({"f": at(1), "g": 7}, {}) if heap is None else heap
        meaning = meaning or {}
        ahead = [heap.copied(), list(values), dict(meaning)]
        left, told, after, worths = gone((len(values), kept, tuple(steps)), (heap, values, meaning))
        self.assertEqual([left, told, worths], list(expected[:3]))
        self.assertEqual([type(told), type(after), type(worths)], [list, Heap, list])
        cells = {number: after.fields(number) for number in after.numbers()}
        self.assertEqual(cells, expected[3] if len(expected) > 3 else {number: heap.fields(number) for number in heap.numbers()})
        self.assertEqual([heap, values, meaning], ahead)
        after.new({})
        worths.append(0)
        self.assertEqual([heap, values], ahead[:2])

    def test_keep_and_move(self):
        self.goes([(1, "keep", 0, 5), (1, "move", 1, 0), (1, "keep", 0, "w"), (1, "move", 2, 2)], [None, None, at(0)], (None, [], ["w", 5, at(0)]))
        self.goes([(1, "keep", 0, None)], [4], (None, [], [None]))
        self.goes([], [4, at(1)], (None, [], [4, at(1)]))

    def test_works(self):
        meaning = {("add", 1, 2): "w", ("add", 2, 1): None, ("sub", None, "v"): 0}
        self.goes([(4, "work", 0, "add", 0, 1)], [1, 2], (None, [], ["w", 2]), meaning=meaning)
        self.goes([(4, "work", 0, "add", 1, 0)], [1, 2], (None, [], [None, 2]), meaning=meaning)
        self.goes([(4, "work", 2, "sub", 0, 1)], [None, "v", 9], (None, [], [None, "v", 0]), meaning=meaning)
        for op, values in [("add", [1, 1]), ("sub", [1, 2]), ("mul", [1, 2]), ("add", [at(0), 2]), ("add", [1, at(0)])]:
            self.goes([(3, "keep", 2, 8), (4, "work", 2, op, 0, 1), (5, "tell", 0)], values + [0], (4, [], values + [8]), meaning=meaning)

    def test_same(self):
        for one, other, expected in [(1, 1, 1), (1, 2, 0), ("w", "w", 1), (None, None, 1), (None, 0, 0), (at(0), at(0), 1), (at(0), at(1), 0), (at(0), 0, 0)]:
            self.goes([(1, "same", 2, 0, 1)], [one, other, 9], (None, [], [one, other, expected]))

    def test_is(self):
        for value, expected in [(0, 0), ("w", 0), (None, 0), (at(0), 1)]:
            self.goes([(1, "is", 1, 0)], [value, 9], (None, [], [value, expected]))
        self.goes([(1, "is", 0, 0)], [at(0)], (None, [], [1]))

    def test_cell(self):
        self.goes([(1, "cell", 0), (1, "cell", 1), (1, "store", 0, "f", 1), (1, "cell", 0)], [0, 0],
                  (None, [], [at(4), at(3)], {0: {"f": at(1), "g": 7}, 1: {}, 2: {"f": at(3)}, 3: {}, 4: {}}))

    def test_load(self):
        self.goes([(1, "load", 1, 0, "g"), (1, "load", 0, 0, "f")], [at(0), 0], (None, [], [at(1), 7]))
        for value, field in [(at(0), "h"), (at(1), "f"), (0, "f"), (None, "f"), ("w", "f")]:
            self.goes([(6, "load", 1, 0, field), (7, "keep", 0, 0)], [value, 3], (6, [], [value, 3]))

    def test_store(self):
        self.goes([(1, "store", 0, "f", 1), (1, "store", 0, "h", 0), (2, "load", 1, 0, "h")], [at(1), 3],
                  (None, [], [at(1), at(1)], {0: {"f": at(1), "g": 7}, 1: {"f": 3, "h": at(1)}}))
        for value in (0, None, "w"):
            self.goes([(6, "store", 0, "f", 1), (7, "keep", 0, 0)], [value, at(0)], (6, [], [value, at(0)]))

    def test_tell(self):
        self.goes([(1, "tell", at_) for at_ in range(5)], [5, "w", None, at(0), 0], (None, [5, "w", "nothing", "cell", 0], [5, "w", None, at(0), 0]))

    def test_guards(self):
        tell = (9, "tell", 0)
        for value, so in [(0, False), (None, False), (1, True), (-1, True), ("w", True), (at(0), True)]:
            for truth in (True, False):
                told = [{None: "nothing", at(0): "cell"}.get(value, value)] if so == truth else []
                self.goes([(5, "so", 0, truth), tell], [value], (None if told else 5, told, [value]))
                cell = value == at(0)
                self.goes([(5, "kind", 0, truth), tell], [value], (None if cell == truth else 5, ["cell" if cell else
                           {None: "nothing"}.get(value, value)] if cell == truth else [], [value]))
        for one, other, alike in [(1, 1, True), (1, 2, False), (None, 0, False), (at(0), at(0), True), (at(0), at(1), False)]:
            for truth in (True, False):
                self.goes([(5, "alike", 0, 1, truth)], [one, other], (None if alike == truth else 5, [], [one, other]))

    def test_what_was_done_ahead_stays(self):
        steps = [(1, "store", 0, "f", 1), (2, "tell", 1), (3, "cell", 1), (4, "so", 2, True), (5, "tell", 1)]
        self.goes(steps, [at(1), 3, 0], (4, [3], [at(1), at(2), 0], {0: {"f": at(1), "g": 7}, 1: {"f": 3}, 2: {}}))


if __name__ == "__main__":
    unittest.main()
