import itertools
import random
import unittest

from reachkept.errors import Unlike
from reachkept.heaps import Heap
from reachkept.judging import do_same, is_parting, met_steps, parting, start_to, word_at
from reachkept.likeness import matched
from reachkept.traces import gone, is_start, is_trace
from tests.test_courses import at, made
from tests.things import STRANGE

WORDS = ["keep", "move", "work", "work", "same", "is", "cell", "load", "load", "store", "store", "tell", "so", "alike", "kind"]
PLAIN = [0, 1, None, "a", 2, 3]


def ends_alike(one, other, start):
    """What the document tells of two runs from a start, in short."""
    first, second = gone(one, start), gone(other, start)
    cells = [at(number) for number in start[0].numbers()]
    kept = one[1]
    return first[:2] == second[:2] and matched(first[2], cells + [first[3][place] for place in kept],
                                               second[2], cells + [second[3][place] for place in kept]) is not None


class Chance:
    """Traces and starts by chance."""

    def __init__(self, seed):
        self.chance = random.Random(seed)

    def step(self, size, words=WORDS, fields="fg"):
        place = lambda: self.chance.randrange(size)
        word, leave, truth = self.chance.choice(words), self.chance.randrange(2), self.chance.random() < 0.5
        rest = {"keep": lambda: (place(), self.chance.choice(PLAIN[:4])), "move": lambda: (place(), place()),
                "work": lambda: (place(), self.chance.choice(["add", "sub"]), place(), place()), "same": lambda: (place(), place(), place()),
                "is": lambda: (place(), place()), "cell": lambda: (place(),), "load": lambda: (place(), place(), self.chance.choice(fields)),
                "store": lambda: (place(), self.chance.choice(fields), place()), "tell": lambda: (place(),), "so": lambda: (place(), truth),
                "alike": lambda: (place(), place(), truth), "kind": lambda: (place(), truth)}[word]()
        return (leave, word, *rest)

    def trace(self, size, most, words=WORDS):
        steps = []
        for _ in range(most):
            step = self.step(size, words)
            if step[1] not in ("load", "store") or len([one for one in steps if one[1] in ("load", "store")]) < 4:
                steps.append(step)
        kept = tuple(sorted(self.chance.sample(range(size), self.chance.randint(0, size))))
        return (size, kept, tuple(steps))

    def near(self, trace):
        """A trace that is like another one but for a step or two."""
        size, kept, steps = trace
        steps = list(steps)
        for _ in range(self.chance.randint(1, 2)):
            index = self.chance.randrange(len(steps) + 1)
            what = self.chance.randrange(4)
            if what == 0:
                del steps[index:index + 1]
            elif what == 1:
                steps[index:index + 2] = steps[index:index + 2][::-1]
            elif what == 2:
                steps[index:index + 1] = [self.step(size)]
            else:
                steps.insert(index, self.step(size, ["move", "same", "is", "so", "alike", "kind", "work"]))
        many = 0
        for index, step in enumerate(steps):
            many += step[1] in ("load", "store")
            if many > 4:
                return trace
        return (size, kept, tuple(steps[:7]))

    def start(self, size):
        many = self.chance.randint(0, 3)
        pool = PLAIN + [at(number) for number in range(many)] * 3
        heap = made(*[{field: self.chance.choice(pool) for field in "fg" if self.chance.random() < 0.8} for _ in range(many)])
        meaning = {(op, one, other): self.chance.choice(PLAIN) for op in ("add", "sub") for one in PLAIN for other in PLAIN
                   if self.chance.random() < 0.85}
        return (heap, [self.chance.choice(pool) for _ in range(size)], meaning)


class Judging(unittest.TestCase):
    def check(self, one, other):
        """Return whether two traces do the same, with all that hangs together with it."""
        self.assertTrue(is_trace(one) and is_trace(other))
        start = parting(one, other)
        for first, second in [(one, other), (other, one)]:
            self.assertIs(do_same(first, second), start is None, (first, second))
        if start is not None:
            self.assertIs(is_start(one[0], start), True)
            self.assertIs(ends_alike(one, other, start), False)
            self.assertIs(is_parting(one, other, start), True)
            loads = [step for step in one[2] + other[2] if step[1] == "load"]
            self.assertLessEqual(len(start[0]), one[0] + len(loads))
        return start is None

    def same(self, size, ones, others, kept=None):
        kept = tuple(range(size)) if kept is None else kept
        self.assertIs(self.check((size, kept, tuple(ones)), (size, kept, tuple(others))), True)

    def parted(self, size, ones, others, kept=None):
        kept = tuple(range(size)) if kept is None else kept
        self.assertIs(self.check((size, kept, tuple(ones)), (size, kept, tuple(others))), False)
        return parting((size, kept, tuple(ones)), (size, kept, tuple(others)))


class TestUnlike(Judging):
    def test_ahead_of_all_else(self):
        one = (2, (0,), ((0, "tell", 1),))
        for other in [(3, (0,), one[2]), (2, (0, 1), one[2]), (2, (), one[2]), (2, (1,), ()), (3, (), ())]:
            for first, second in [(one, other), (other, one)]:
                for call in [lambda: do_same(first, second), lambda: parting(first, second),
                             lambda: is_parting(first, second, None), lambda: is_parting(first, second, (Heap(), [0, 0], {}))]:
                    with self.assertRaises(Unlike):
                        call()


class TestTheSame(Judging):
    def test_no_steps(self):
        self.same(0, [], [])
        self.same(2, [], [])
        self.same(2, [(0, "move", 0, 0)], [])

    def test_what_was_stored_is_loaded(self):
        steps = [(0, "store", 0, "f", 1), (1, "load", 2, 0, "f"), (2, "alike", 1, 2, True), (3, "tell", 2)]
        self.same(3, steps, [steps[0], (1, "move", 2, 1), (3, "tell", 1)])
        self.same(3, steps, [steps[0], (9, "load", 2, 0, "f"), (8, "tell", 2)])
        self.same(3, [(0, "store", 0, "f", 1), (0, "store", 0, "f", 2)], [(0, "store", 0, "f", 2)])
        self.same(3, [(0, "load", 1, 0, "f"), (0, "store", 0, "f", 1)], [(0, "load", 1, 0, "f")])
        self.same(3, [(0, "load", 1, 0, "f"), (1, "load", 2, 0, "f")], [(0, "load", 1, 0, "f"), (1, "move", 2, 1)])
        self.same(3, [(0, "store", 0, "f", 1), (0, "store", 2, "g", 1), (1, "load", 1, 0, "f")], [(0, "store", 0, "f", 1), (0, "store", 2, "g", 1)])

    def test_a_store_of_what_was_loaded_from_a_cell_that_may_be_one(self):
        self.same(3, [(0, "load", 2, 0, "f"), (0, "alike", 0, 1, True), (0, "store", 1, "f", 2)], [(0, "load", 2, 0, "f"), (0, "alike", 0, 1, True)])
        self.same(4, [(0, "load", 2, 0, "f"), (0, "load", 3, 1, "f"), (0, "store", 0, "f", 2), (0, "store", 1, "f", 3)],
                  [(0, "load", 2, 0, "f"), (0, "load", 3, 1, "f")])

    def test_guards_that_follow_from_elder_ones(self):
        self.same(3, [(0, "alike", 0, 1, True), (0, "alike", 1, 2, True), (7, "alike", 0, 2, True)], [(0, "alike", 0, 1, True), (0, "alike", 1, 2, True)])
        self.same(3, [(0, "alike", 0, 1, True), (0, "alike", 1, 2, False), (7, "alike", 0, 2, False)],
                  [(0, "alike", 0, 1, True), (0, "alike", 0, 2, False)])
        self.same(1, [(0, "kind", 0, True), (7, "so", 0, True)], [(0, "kind", 0, True)])
        self.same(2, [(0, "load", 1, 0, "f"), (7, "kind", 0, True), (7, "so", 0, True)], [(0, "load", 1, 0, "f")])
        self.same(2, [(0, "so", 0, False), (0, "kind", 1, True), (7, "alike", 0, 1, False), (7, "kind", 0, False)],
                  [(0, "so", 0, False), (0, "kind", 1, True)])
        self.same(2, [(0, "alike", 0, 1, True), (0, "so", 0, True), (7, "so", 1, True)], [(0, "alike", 0, 1, True), (0, "so", 1, True)])
        self.same(3, [(0, "so", 0, False), (0, "so", 1, False), (0, "so", 2, False), (0, "alike", 0, 1, False), (0, "alike", 1, 2, False), (7, "alike", 0, 2, True)],
                  [(0, "so", 0, False), (0, "so", 1, False), (0, "so", 2, False), (0, "alike", 0, 1, False), (0, "alike", 1, 2, False)])
        self.same(2, [(0, "work", 1, "add", 0, 0), (7, "kind", 0, False), (7, "kind", 1, False)], [(0, "work", 1, "add", 0, 0)])

    def test_works_with_equal_parts(self):
        self.same(4, [(0, "alike", 0, 1, True), (0, "work", 2, "add", 0, 0), (1, "work", 3, "add", 1, 0)],
                  [(0, "alike", 0, 1, True), (0, "work", 2, "add", 1, 1), (1, "move", 3, 2)])
        self.same(3, [(0, "keep", 0, 5), (0, "keep", 1, 5), (0, "work", 2, "mul", 0, 1), (1, "work", 2, "mul", 1, 0)],
                  [(0, "keep", 0, 5), (0, "keep", 1, 5), (0, "work", 2, "mul", 0, 0)])
        self.same(3, [(0, "work", 2, "add", 0, 1), (1, "work", 0, "sub", 2, 2), (1, "alike", 0, 2, True), (9, "work", 0, "sub", 0, 2)],
                  [(0, "work", 2, "add", 0, 1), (1, "work", 0, "sub", 2, 2), (1, "alike", 2, 0, True)])

    def test_values_that_are_alike(self):
        self.same(3, [(0, "alike", 0, 1, True), (0, "tell", 0), (0, "store", 2, "f", 0)], [(0, "alike", 0, 1, True), (0, "tell", 1), (0, "store", 2, "f", 1)])
        self.same(2, [(0, "same", 0, 1, 1)], [(0, "keep", 0, 1)])
        self.same(2, [(0, "kind", 0, True), (0, "is", 1, 0)], [(0, "kind", 0, True), (0, "keep", 1, 1)])
        self.same(2, [(0, "so", 0, True), (0, "keep", 1, 0), (0, "same", 1, 0, 1)], [(0, "so", 0, True), (0, "keep", 1, 0)])
        self.same(2, [(0, "kind", 0, True), (0, "kind", 1, True), (0, "tell", 0)], [(0, "kind", 0, True), (0, "kind", 1, True), (0, "tell", 1)])

    def test_new_cells(self):
        self.same(2, [(0, "cell", 0), (0, "cell", 1)], [(0, "cell", 1), (0, "cell", 0)])
        self.same(1, [(0, "cell", 0), (0, "cell", 0)], [(0, "cell", 0)])
        self.same(2, [(0, "cell", 0), (7, "kind", 0, True), (7, "alike", 0, 1, False), (7, "so", 0, True)], [(0, "cell", 0)])
        self.same(2, [(0, "cell", 0), (0, "store", 0, "f", 0), (0, "load", 1, 0, "f")], [(0, "cell", 1), (0, "store", 1, "f", 1), (0, "move", 0, 1)])
        self.same(2, [(0, "cell", 0), (3, "load", 1, 0, "f"), (4, "tell", 0)], [(0, "cell", 0), (3, "store", 0, "g", 0), (3, "load", 1, 0, "f")], kept=())
        guard = (0, "kind", 1, True)
        self.same(3, [guard, (0, "cell", 0), (0, "store", 1, "f", 0), (0, "load", 2, 1, "f")],
                  [guard, (0, "cell", 2), (0, "store", 1, "f", 2), (0, "move", 0, 2)])

    def test_what_is_not_kept(self):
        self.same(2, [(0, "keep", 0, 5)], [], kept=(1,))
        self.same(2, [(0, "same", 0, 1, 1), (0, "is", 0, 1)], [(0, "move", 0, 1)], kept=(1,))
        self.same(2, [(0, "cell", 0), (0, "store", 0, "f", 1)], [], kept=(1,))

    def test_what_is_never_come_to(self):
        never = [(0, "kind", 0, True), (3, "so", 0, False)]
        self.same(2, never + [(4, "tell", 1)], never + [(5, "store", 1, "f", 0)])
        self.same(2, [(0, "keep", 0, 0), (3, "load", 1, 0, "f"), (4, "tell", 1)], [(0, "keep", 0, 0), (3, "kind", 0, True)])

    def test_exits_of_steps_that_are_always_done(self):
        self.same(2, [(0, "tell", 0), (1, "keep", 0, 1)], [(5, "tell", 0), (6, "keep", 0, 1)])


class TestParted(Judging):
    def test_exits(self):
        self.parted(1, [(0, "so", 0, True)], [(1, "so", 0, True)])
        self.parted(1, [(0, "so", 0, True)], [])
        self.parted(2, [(0, "so", 0, True), (0, "so", 1, True)], [(0, "so", 0, True), (1, "so", 1, True)])
        self.same(2, [(0, "so", 0, True), (0, "so", 1, True)], [(0, "so", 1, True), (0, "so", 0, True)])

    def test_what_is_told(self):
        self.parted(2, [(0, "tell", 0)], [(0, "tell", 1)])
        self.parted(2, [(0, "tell", 0)], [])
        self.parted(2, [(0, "tell", 0), (0, "tell", 1)], [(0, "tell", 1), (0, "tell", 0)])
        self.parted(2, [(0, "kind", 0, True), (0, "tell", 0)], [(0, "kind", 0, True), (0, "tell", 1)])

    def test_cells_that_are_one(self):
        stores = [(0, "store", 0, "f", 2), (0, "store", 1, "f", 3)]
        start = self.parted(4, [(0, "kind", 1, True)] + stores, [(0, "kind", 1, True)] + stores[::-1])
        self.assertEqual(start[1][0], start[1][1])
        start = self.parted(3, [(0, "kind", 1, True), (0, "store", 0, "f", 2), (0, "load", 2, 1, "f")],
                            [(0, "kind", 1, True), (0, "load", 2, 1, "f"), (0, "store", 0, "f", 2)])
        stores = [(0, "kind", 1, True), (0, "kind", 0, True), (0, "alike", 0, 1, False)]
        self.same(4, stores + [(0, "store", 0, "f", 2), (0, "store", 1, "f", 3)], stores + [(0, "store", 1, "f", 3), (0, "store", 0, "f", 2)])
        self.same(4, stores[:2] + [(0, "store", 0, "f", 2), (0, "store", 1, "g", 3)], stores[:2] + [(0, "store", 1, "g", 3), (0, "store", 0, "f", 2)])

    def test_cells_that_are_one_by_what_is_loaded(self):
        ahead = [(0, "load", 2, 0, "g"), (0, "kind", 2, True), (0, "kind", 1, True)]
        self.parted(4, ahead + [(0, "store", 1, "f", 0), (0, "store", 2, "f", 3)], ahead + [(0, "store", 2, "f", 3), (0, "store", 1, "f", 0)])
        ahead = [(0, "load", 1, 0, "g"), (0, "load", 2, 0, "f"), (0, "kind", 1, True), (0, "kind", 2, True), (0, "tell", 3)]
        self.parted(4, ahead + [(0, "store", 1, "f", 3)], ahead + [(0, "store", 2, "f", 3)])

    def test_a_field_that_lacks(self):
        self.parted(2, [(0, "load", 1, 0, "f")], [(1, "load", 1, 0, "f")])
        start = self.parted(3, [(0, "load", 1, 0, "f"), (1, "load", 2, 0, "g")], [(1, "load", 2, 0, "g"), (0, "load", 1, 0, "f")])
        self.parted(2, [(0, "load", 1, 0, "f")], [(0, "kind", 0, True)], kept=(0,))
        self.parted(2, [(0, "store", 0, "f", 1)], [(0, "kind", 0, True)])
        self.assertIs(is_start(3, start), True)

    def test_nought_nothing_and_words(self):
        ahead = [(0, "so", 0, False)]
        self.parted(1, ahead + [(0, "keep", 0, 0)], ahead)
        self.parted(1, ahead + [(0, "keep", 0, None)], ahead)
        self.parted(2, [(0, "so", 0, False), (0, "so", 1, False), (3, "alike", 0, 1, True)], [(0, "so", 0, False), (0, "so", 1, False)])
        for value in (0, 1, None, "w", 10 ** 30):
            start = self.parted(2, [(0, "keep", 1, value), (0, "same", 0, 0, 1)], [(0, "keep", 1, value), (0, "keep", 0, 0)])
            self.assertEqual(start[1][0], value)
        self.parted(1, [(0, "keep", 0, 1)], [(0, "keep", 0, "w")])
        start = self.parted(2, [(0, "keep", 1, "w"), (7, "alike", 0, 1, False)], [(0, "keep", 1, "w")])
        self.assertEqual(start[1][0], "w")

    def test_a_work_that_means_nothing(self):
        self.parted(2, [(0, "work", 1, "add", 0, 0)], [(0, "kind", 0, False)], kept=(0,))
        self.parted(2, [(0, "work", 1, "add", 0, 0), (1, "work", 1, "sub", 0, 0)], [(1, "work", 1, "sub", 0, 0), (0, "work", 1, "add", 0, 0)], kept=(0,))
        start = self.parted(2, [(0, "keep", 0, 1), (0, "work", 1, "add", 0, 0)], [(0, "keep", 0, 1), (0, "keep", 1, 2)])
        self.assertIs(is_start(2, start), True)

    def test_works_mean_what_they_like(self):
        self.parted(3, [(0, "work", 2, "add", 0, 1)], [(0, "work", 2, "add", 1, 0)])
        self.parted(3, [(0, "work", 2, "add", 0, 1)], [(0, "work", 2, "sub", 0, 1)])
        self.parted(3, [(0, "keep", 0, 1), (0, "keep", 1, 2), (0, "work", 2, "add", 0, 0), (0, "tell", 2)],
                    [(0, "keep", 0, 1), (0, "keep", 1, 2), (0, "work", 2, "add", 0, 0), (0, "tell", 1)])
        self.parted(3, [(0, "work", 2, "less", 0, 1), (0, "so", 2, False)], [(0, "work", 2, "less", 0, 1), (0, "keep", 0, 0), (0, "same", 0, 2, 0),
                                                                           (0, "so", 0, True)], kept=())

    def test_new_cells(self):
        self.parted(2, [(0, "cell", 0), (0, "cell", 1)], [(0, "cell", 0), (0, "move", 1, 0)])
        self.parted(2, [(0, "cell", 0), (0, "store", 0, "f", 1)], [(0, "cell", 0)])
        self.parted(2, [(0, "cell", 0), (0, "store", 0, "f", 0)], [(0, "cell", 0), (0, "store", 0, "f", 1)])
        self.parted(2, [(0, "cell", 0)], [(0, "move", 0, 1)])
        self.parted(2, [(0, "cell", 0), (0, "store", 1, "f", 0)], [(0, "cell", 0), (0, "cell", 0), (0, "kind", 1, True)], kept=(0,))

    def test_heaps_of_parting_starts_are_not_too_great(self):
        loads = [(0, "load", 1, 0, "f"), (0, "load", 2, 1, "f"), (0, "load", 3, 2, "f"), (0, "kind", 3, True)]
        start = self.parted(4, loads + [(1, "alike", 0, 3, False)], loads)
        self.assertLessEqual(len(start[0]), 4 + 6)


class TestIsParting(Judging):
    def test_any_value(self):
        one, other = (2, (0, 1), ((0, "tell", 0),)), (2, (0, 1), ((0, "tell", 1),))
        for start in [(Heap(), [1, 2], {}), (made({}), [at(0), 2], {}), (made({}, {"f": at(0)}), [None, 0], {("add", 1, 1): 1}),
                      (made(*[{}] * 10), [0, 1], {})]:
            self.assertIs(is_parting(one, other, start), True)
        for thing in STRANGE + [(Heap(), [1, 1], {}), (made({}, {}), [at(0), at(1)], {}), (Heap(), [1], {}), (Heap(), (1, 2), {}), [Heap(), [1, 2], {}],
                                (Heap(), [1, True], {}), (Heap(), [1, at(0)], {}), (made({0: 1}), [1, 2], {}), (Heap(), [1, 2], {}, 0), (Heap(), [1, 2]),
                                (Heap(), [1, 2], {1: 2}), (None, [1, 2], {})]:
            self.assertIs(is_parting(one, other, thing), False, thing)

    def test_what_is_handed_in_stays(self):
        one, other = (2, (0, 1), ((0, "store", 0, "f", 1),)), (2, (0, 1), ((0, "cell", 0),))
        heap, values = made({}), [at(0), 1]
        self.assertIs(is_parting(one, other, (heap, values, {})), True)
        self.assertEqual([heap, values], [made({}), [at(0), 1]])
        start = parting(one, other)
        start[0].new({})
        start[1].clear()
        self.assertIs(is_parting(one, other, parting(one, other)), True)


class TestSteps(Judging):
    def words(self, trace):
        """The words of all steps, with all that hangs together with them."""
        words = [word_at(trace, index) for index in range(len(trace[2]))]
        self.assertEqual(met_steps(trace), [index for index, word in enumerate(words) if word != "never"])
        for index, word in enumerate(words):
            start = start_to(trace, index)
            self.assertIs(start is None, word == "never")
            if start is not None:
                self.assertIs(is_start(trace[0], start), True)
                # It is come to if a step put in its place, which is left in its own way, is left so.
                stopped = (trace[0], trace[1], trace[2][:index] + ((99, "keep", 0, 0), (99, "kind", 0, True)))
                self.assertEqual(gone(stopped, start)[0], 99)
        return words

    def test_the_examples_of_the_document(self):
        steps = ((0, "store", 0, "f", 1), (1, "load", 2, 0, "f"), (2, "alike", 1, 2, True), (3, "tell", 2))
        self.assertEqual(self.words((3, (0, 1, 2), steps)), ["open", "always", "always", "always"])
        other = (3, (0, 1, 2), ((0, "store", 0, "f", 1), (1, "store", 2, "f", 0), (2, "load", 2, 0, "f"), (2, "tell", 2)))
        self.assertEqual(self.words(other), ["open", "open", "always", "always"])

    def test_each_word(self):
        for steps, expected in [
                ([], []), ([(0, "tell", 0)], ["always"]), ([(0, "so", 0, True)], ["open"]), ([(0, "kind", 0, True), (0, "kind", 0, False)], ["open", "left"]),
                ([(0, "kind", 0, True), (0, "kind", 0, False), (0, "tell", 0), (0, "so", 0, True)], ["open", "left", "never", "never"]),
                ([(0, "keep", 0, 0), (0, "load", 1, 0, "f"), (0, "tell", 0)], ["always", "left", "never"]),
                ([(0, "cell", 0), (0, "load", 1, 0, "f")], ["always", "left"]), ([(0, "cell", 0), (0, "work", 1, "add", 0, 1)], ["always", "left"]),
                ([(0, "work", 1, "add", 0, 0), (0, "work", 2, "add", 0, 0), (0, "work", 2, "add", 2, 0)], ["open", "always", "open"]),
                ([(0, "so", 0, False), (0, "so", 1, False), (0, "so", 2, False), (0, "alike", 0, 1, False), (0, "alike", 1, 2, False),
                  (0, "alike", 0, 2, False), (0, "tell", 0)], ["open", "open", "open", "open", "open", "left", "never"]),
                ([(0, "load", 1, 0, "f"), (0, "load", 1, 0, "f"), (0, "load", 1, 0, "g"), (0, "load", 1, 1, "f")], ["open", "always", "open", "open"]),
                # What follows from parts that are the same, or are different.
                ([(0, "load", 1, 0, "f"), (0, "load", 2, 0, "f"), (0, "alike", 1, 2, True)], ["open", "always", "always"]),
                ([(0, "cell", 0), (0, "cell", 1), (0, "alike", 0, 1, False), (0, "alike", 0, 2, True)], ["always", "always", "always", "left"]),
                ([(0, "alike", 0, 1, False), (0, "alike", 1, 2, True), (0, "alike", 0, 2, False)], ["open", "open", "always"]),
                ([(0, "alike", 0, 1, False), (0, "alike", 2, 1, True), (0, "alike", 0, 2, False)], ["open", "open", "always"]),
                ([(0, "alike", 1, 0, False), (0, "alike", 2, 0, True), (0, "alike", 2, 1, True)], ["open", "open", "left"]),
                ([(0, "kind", 0, True), (0, "alike", 1, 0, True), (0, "kind", 1, True), (0, "so", 1, True)], ["open", "open", "always", "always"]),
                ([(0, "work", 1, "add", 0, 0), (0, "alike", 2, 1, True), (0, "kind", 2, False)], ["open", "open", "always"]),
                ([(0, "same", 0, 1, 2), (0, "so", 0, True), (0, "alike", 1, 2, True), (0, "alike", 1, 2, False)], ["always", "open", "always", "left"])]:
            self.assertEqual(self.words((3, (0,), tuple(steps))), expected, steps)

    def test_parts_that_are_found_to_be_the_same_later(self):
        loads = ((0, "load", 2, 0, "f"), (0, "load", 3, 1, "f"))
        works = ((0, "work", 2, "add", 0, 4), (0, "work", 3, "add", 1, 4))
        for ahead in (loads, works):
            for one, other in ((0, 1), (1, 0)):
                for first, second in ((2, 3), (3, 2)):
                    same, unlike = (0, "alike", one, other, True), (0, "alike", first, second, False)
                    follows = (0, "alike", first, second, True)
                    self.assertEqual(self.words((5, (), ahead + (same, follows))), ["open"] * 3 + ["always"])
                    self.assertEqual(self.words((5, (), ahead + (same, unlike))), ["open"] * 3 + ["left"])
                    self.assertEqual(self.words((5, (), ahead + (unlike, same))), ["open"] * 3 + ["left"])
                    kind = (0, "kind", 2, True)
                    words = ["open"] * 3 + (["open", "left"] if ahead == loads else ["never", "never"])
                    words[2] = "open" if ahead == loads else "left"
                    self.assertEqual(self.words((5, (), ahead + (kind, same, (0, "kind", 3, False)))), words)
        # And what follows from that in its turn.
        ahead = loads + ((0, "load", 2, 2, "g"), (0, "load", 3, 3, "g"))
        self.assertEqual(self.words((5, (), ahead + ((0, "alike", 1, 0, True), (0, "alike", 2, 3, True)))), ["open"] * 5 + ["always"])
        self.assertEqual(self.words((5, (), ahead + ((0, "alike", 2, 3, False), (0, "alike", 0, 1, True)))), ["open"] * 5 + ["left"])
        ahead = ahead[:2] + ((0, "so", 2, False), (0, "so", 3, False), (0, "alike", 2, 3, False), (0, "alike", 0, 1, True))
        self.assertEqual(self.words((5, (), ahead)), ["open"] * 5 + ["left"])

    def test_by_chance(self):
        chance = Chance(80)
        for _ in range(150):
            trace = chance.trace(chance.chance.randint(1, 4), 6)
            words = self.words(trace)
            for _ in range(40):
                start = chance.start(trace[0])
                for index, word in enumerate(words):
                    size, _, steps = trace
                    ahead = gone((size, (), steps[:index] + ((99, "keep", 0, 0), (99, "kind", 0, True))), start)[0] == 99
                    if ahead:
                        done = gone((size, (), tuple((0, *step[1:]) for step in steps[:index]) + ((5, *steps[index][1:]),)), start)[0] is None
                        self.assertIn(word, ["always", "open"] if done else ["left", "open"])


class TestByChance(Judging):
    def test_traces_that_are_near(self):
        chance = Chance(81)
        found = {True: 0, False: 0}
        for _ in range(900):
            one = chance.trace(chance.chance.randint(1, 6), chance.chance.randint(1, 7))
            other = chance.near(one)
            same = self.check(one, other)
            found[same] += 1
            for _ in range(25 if same else 0):
                start = chance.start(one[0])
                self.assertIs(ends_alike(one, other, start), True, (one, other))
        self.assertGreater(min(found.values()), 150)

    def test_small_traces_from_all_small_starts(self):
        # All pairs of traces of one or two of these steps, from all starts with two cells.
        steps = [(0, "store", 0, "f", 1), (0, "store", 1, "f", 0), (0, "load", 1, 0, "f"), (0, "alike", 0, 1, True), (0, "so", 0, False),
                 (0, "keep", 0, 0), (0, "same", 1, 0, 1), (0, "cell", 0), (0, "tell", 1)]
        traces = [(2, (0, 1), some) for many in (1, 2) for some in itertools.product(steps, repeat=many)]
        pool = [0, None, 1, 2, 3, at(0), at(1), at(2)]
        starts = []
        for values in itertools.product(pool, repeat=2):
            for held in itertools.product([()] + pool, repeat=2):
                starts.append((made(*[{"f": value} if value != () else {} for value in held], {}), list(values), {}))
        chance = random.Random(82)
        for _ in range(600):
            one, other = chance.sample(traces, 2)
            if self.check(one, other):
                for start in chance.sample(starts, 60):
                    self.assertIs(ends_alike(one, other, start), True, (one, other, start[1]))

    def test_traces_as_long_as_may_be(self):
        # All that can be asked of seven steps each is asked, as these do the same.
        chance = Chance(83)
        for words in [["same", "is"], ["store", "load", "move"], ["work", "same"], WORDS]:
            for _ in range(6):
                one = (6, (), tuple((0, *step[1:]) for step in chance.trace(6, 7, words)[2]))
                other = (6, (), tuple((0, *step[1:]) for step in chance.trace(6, 7, words)[2]))
                self.assertIs(self.check(one, one), True)
                self.check(one, other)


class TestSizesBeyondAllBounds(unittest.TestCase):
    def test_registers_that_are_not_used_do_not_count(self):
        for size in (10 ** 9, 10 ** 39):
            one = (size, (1,), ((0, "tell", size - 1), (1, "keep", 1, 2)))
            self.assertTrue(do_same(one, one))
            self.assertFalse(do_same(one, (size, (1,), ((0, "tell", size - 2), (1, "keep", 1, 2)))))
            self.assertTrue(do_same((size, (), ()), (size, (), ())))
            self.assertFalse(do_same((size, (5, size - 1), ()), (size, (5, size - 1), ((0, "move", 5, size - 1),))))


if __name__ == "__main__":
    unittest.main()
