import itertools
import random
import unittest

from reachkept.heaps import Heap
from reachkept.likeness import matched, packed
from tests.test_heaps import made


def at(number):
    return ("at", number)


def led(value, partners):
    return at(partners[value[1]]) if type(value) is tuple else value


def brute(one, ones, other, others):
    """All dicts that match, found by trying all of them."""
    left, right = one.reached(ones), other.reached(others)
    found = []
    if len(left) != len(right):
        return found
    for order in itertools.permutations(right):
        partners = dict(zip(left, order))
        if [led(value, partners) for value in ones] != others:
            continue
        if all({field: led(value, partners) for field, value in one.fields(number).items()}
               == other.fields(partners[number]) for number in left):
            found.append(partners)
    return found


def by_chance(chance, many):
    heap = Heap()
    for _ in range(many):
        heap.new({})
    for number in range(many):
        for field in chance.sample(["a", "b"], chance.randint(0, 2)):
            heap.put(number, field, chance.choice([0, 1, "w", None] + [at(place) for place in range(many)] * 2))
    return heap


class TestMatched(unittest.TestCase):
    def test_the_example_of_the_document(self):
        heap = Heap()
        self.assertEqual([heap.new({"v": 7}), heap.new({"a": at(0), "b": 3}), heap.put(0, "v", at(1)),
                          heap.reached([at(1)]), heap.get(1, "b")], [0, 1, None, [0, 1], 3])
        small, values = packed(heap, [at(1), "w"])
        self.assertEqual([values, small.fields(0), small.fields(1), matched(heap, [at(1)], small, [at(0)])],
                         [[at(0), "w"], {"a": at(1), "b": 3}, {"v": at(0)}, {0: 1, 1: 0}])

    def test_values_that_are_no_cells(self):
        self.assertEqual(matched(Heap(), [], Heap(), []), {})
        self.assertEqual(matched(Heap(), [1, "a", None], Heap(), [1, "a", None]), {})
        for other in [0, 2, "b", None, "at"]:
            self.assertIsNone(matched(Heap(), [1], Heap(), [other]))
        self.assertIsNone(matched(Heap(), [0], Heap(), [None]))
        one = made({})
        for other in [0, None, "at", "cell"]:
            self.assertIsNone(matched(one, [at(0)], Heap(), [other]))
            self.assertIsNone(matched(Heap(), [other], one, [at(0)]))

    def test_fields(self):
        base = made({"a": 1, "b": None})
        self.assertEqual(matched(base, [at(0)], made({"b": None, "a": 1}), [at(0)]), {0: 0})
        for other in [{"a": 1}, {"a": 1, "b": None, "c": 1}, {"a": 1, "c": None}, {"a": 2, "b": None},
                      {"a": 1, "b": 0}, {}, {0: 1, 1: None}]:
            self.assertIsNone(matched(base, [at(0)], made(other), [at(0)]))
            self.assertIsNone(matched(made(other), [at(0)], base, [at(0)]))

    def test_rings(self):
        one = made({"a": at(0)})
        two = made({"a": at(1)}, {"a": at(0)})
        three = made({"a": at(1)}, {"a": at(2)}, {"a": at(0)})
        self.assertEqual(matched(one, [at(0)], one, [at(0)]), {0: 0})
        self.assertEqual(matched(two, [at(0)], two, [at(1)]), {0: 1, 1: 0})
        self.assertEqual(matched(three, [at(1)], three, [at(0)]), {0: 2, 1: 0, 2: 1})
        self.assertIsNone(matched(one, [at(0)], two, [at(0)]))
        self.assertIsNone(matched(two, [at(0)], one, [at(0)]))
        self.assertIsNone(matched(two, [at(0)], three, [at(0)]))
        self.assertIsNone(matched(three, [at(0)], two, [at(0)]))

    def test_what_is_one_here_and_two_there(self):
        shared = made({"a": at(1), "b": at(1)}, {})
        parted = made({"a": at(1), "b": at(2)}, {}, {})
        self.assertIsNone(matched(shared, [at(0)], parted, [at(0)]))
        self.assertIsNone(matched(parted, [at(0)], shared, [at(0)]))
        self.assertIsNone(matched(shared, [at(1), at(1)], parted, [at(1), at(2)]))
        self.assertIsNone(matched(parted, [at(1), at(2)], shared, [at(1), at(1)]))
        self.assertEqual(matched(parted, [at(1), at(2)], parted, [at(2), at(1)]), {1: 2, 2: 1})

    def test_cells_that_are_not_reached_count_for_nothing(self):
        one = made({"a": 1}, {"a": at(0)}, {"b": 5})
        other = made({}, {"a": at(2)}, {"a": 1})
        self.assertEqual(matched(one, [at(1)], other, [at(1)]), {0: 2, 1: 1})
        other.free([0])
        one.put(2, "c", at(2))
        self.assertEqual(matched(one, [at(1)], other, [at(1)]), {0: 2, 1: 1})
        self.assertEqual(matched(one, [], other, []), {})

    def test_keys_are_ascending_and_arguments_stay(self):
        one = made({}, {"a": at(2)}, {"a": at(0)})
        ones = [at(1), 5]
        partners = matched(one, ones, one, [at(1), 5])
        self.assertEqual(list(partners.items()), [(0, 0), (1, 1), (2, 2)])
        self.assertEqual((ones, one), ([at(1), 5], made({}, {"a": at(2)}, {"a": at(0)})))
        self.assertEqual(list(matched(one, [at(2), at(1)], one, [at(2), at(1)])), [0, 1, 2])

    def test_against_trying_all(self):
        chance = random.Random(31)
        alike = 0
        for _ in range(1500):
            many = chance.randint(1, 4)
            one = by_chance(chance, many)
            ones = [chance.choice([at(chance.randrange(many)), 1, None]) for _ in range(chance.randint(1, 2))]
            if chance.random() < 0.6:
                turn = list(range(many))
                chance.shuffle(turn)
                turn = dict(enumerate(turn))
                other = made(*[{} for _ in range(many)])
                for number in range(many):
                    for field, value in one.fields(number).items():
                        other.put(turn[number], field, led(value, turn))
                others = [led(value, turn) for value in ones]
                if chance.random() < 0.3:
                    other.put(chance.randrange(many), "a", chance.choice([0, at(0)]))
            else:
                other = by_chance(chance, many)
                others = [chance.choice([at(chance.randrange(many)), 1, None]) for _ in ones]
            expected = brute(one, ones, other, others)
            self.assertLessEqual(len(expected), 1)
            self.assertEqual(matched(one, ones, other, others), expected[0] if expected else None)
            alike += len(expected)
        self.assertGreater(alike, 300)


class TestPacked(unittest.TestCase):
    def test_the_order_in_which_cells_are_numbered(self):
        heap = made({}, {"b": at(5), "a": at(3)}, {}, {"z": at(0), "c": at(1)}, {"a": at(2)}, {}, {"a": at(0)})
        small, values = packed(heap, [at(4), 7, at(1), at(4)])
        # 4 and 1 are met first, then 2 from 4, then 3 and 5 from 1, then 0 from 3.
        self.assertEqual(values, [at(0), 7, at(1), at(0)])
        self.assertEqual(small, made({"a": at(2)}, {"a": at(3), "b": at(4)}, {}, {"c": at(1), "z": at(5)}, {}, {}))
        self.assertEqual(small.new({}), 6)

    def test_fields_that_are_integers(self):
        heap = made({}, {}, {}, {10: at(0), -9: "root", 2: at(1), -1: at(2)})
        small, values = packed(heap, [at(3)])
        self.assertEqual(values, [at(0)])
        self.assertEqual(small, made({-9: "root", -1: at(1), 2: at(2), 10: at(3)}, {}, {}, {}))

    def test_nothing_reached(self):
        self.assertEqual(packed(made({}), []), (Heap(), []))
        self.assertEqual(packed(made({}), [None, "w", 3]), (Heap(), [None, "w", 3]))
        self.assertIs(type(packed(made({}), [])), tuple)

    def test_rings(self):
        heap = made({}, {"a": at(2), "b": at(1)}, {"a": at(1)})
        small, values = packed(heap, [at(2)])
        self.assertEqual((small, values), (made({"a": at(1)}, {"a": at(0), "b": at(1)}), [at(0)]))

    def test_it_is_a_heap_by_itself(self):
        heap = made({"a": at(1)}, {"a": 1})
        asked = [at(0)]
        small, values = packed(heap, asked)
        small.put(0, "a", None)
        values.append(1)
        self.assertEqual((heap, asked), (made({"a": at(1)}, {"a": 1}), [at(0)]))

    def test_what_is_packed_matches(self):
        chance = random.Random(13)
        for _ in range(300):
            many = chance.randint(1, 6)
            heap = by_chance(chance, many)
            values = [chance.choice([at(chance.randrange(many)), "w"]) for _ in range(chance.randint(0, 3))]
            small, others = packed(heap, values)
            self.assertEqual(small.numbers(), list(range(len(heap.reached(values)))))
            partners = matched(heap, values, small, others)
            self.assertEqual(sorted(partners), heap.reached(values))
            again, same = packed(small, others)
            self.assertEqual((again, same), (small, others))


if __name__ == "__main__":
    unittest.main()
