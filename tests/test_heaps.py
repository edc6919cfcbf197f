import unittest

from reachkept.errors import Gone, NoField, Wrong
from reachkept.heaps import Heap
from tests.things import STRANGE

NO_NUMBERS = [thing for thing in STRANGE if type(thing) is not int] + [-1, 99, 10 ** 39]


def made(*cells):
    heap = Heap()
    for fields in cells:
        heap.new({})
    for number, fields in enumerate(cells):
        for field, value in fields.items():
            heap.put(number, field, value)
    return heap


class TestNew(unittest.TestCase):
    def test_numbers_from_nought_on(self):
        heap = Heap()
        self.assertEqual([len(heap), heap.numbers()], [0, []])
        self.assertEqual([heap.new({}), heap.new({"a": 1}), heap.new({-9: "root", 0: None})], [0, 1, 2])
        self.assertEqual([len(heap), heap.numbers()], [3, [0, 1, 2]])

    def test_no_number_twice(self):
        heap = made({}, {}, {})
        heap.free([2, 0])
        self.assertEqual([heap.numbers(), len(heap), heap.new({})], [[1], 1, 3])
        heap.free([1, 3])
        self.assertEqual([heap.numbers(), heap.new({})], [[], 4])

    def test_what_is_handed_in_stays_and_is_copied(self):
        fields = {"b": 1, "a": "w"}
        heap = Heap()
        heap.new(fields)
        fields["c"] = 3
        self.assertEqual(heap.fields(0), {"a": "w", "b": 1})
        heap.put(0, "a", 5)
        self.assertEqual(fields, {"b": 1, "a": "w", "c": 3})

    def test_wrong(self):
        for fields in [{"a": True}, {"a": False}, {True: 1}, {False: 1}, {"let": 1}, {"a": 1, 0: 1}, {0: 1, "a": 1},
                       {None: 1}, {("a",): 1}, {"a": []}, {"a": {}}, {"a": "let"}, {"a": ("at", -1)},
                       {"a": ("at", True)}, {"a": ["at", 0]}, {"abcdefghi": 1}, {"": 1}, {5: 1, True: 2}, {5: Heap()}]:
            heap = made({})
            with self.assertRaises(Wrong) as caught:
                heap.new(fields)
            self.assertEqual(caught.exception.place, 0)
            self.assertEqual([heap.numbers(), heap.new({})], [[0], 1])

    def test_any_value_that_is_no_dict_is_wrong(self):
        for thing in STRANGE:
            if type(thing) is not dict:
                with self.assertRaises(Wrong) as caught:
                    Heap().new(thing)
                self.assertEqual(caught.exception.place, 0)

    def test_gone(self):
        heap = made({}, {}, {})
        heap.free([1])
        for fields, number in [({"a": ("at", 1)}, 1), ({"a": ("at", 3)}, 3), ({0: ("at", 9), 1: ("at", 7)}, 7),
                               ({"a": ("at", 9), "b": ("at", 0), "c": ("at", 1)}, 1)]:
            with self.assertRaises(Gone) as caught:
                heap.new(fields)
            self.assertEqual(caught.exception.number, number)
        self.assertEqual([heap.numbers(), heap.new({"a": ("at", 0)})], [[0, 2], 3])

    def test_wrong_comes_ahead_of_gone(self):
        with self.assertRaises(Wrong):
            Heap().new({"a": ("at", 5), "b": True})
        with self.assertRaises(Wrong):
            Heap().new({"a": ("at", 5), 4: 1})


class TestFields(unittest.TestCase):
    def test_fields_are_ascending_and_new(self):
        heap = Heap()
        heap.new({"c": 1, "a": 2, "b": None})
        heap.new({3: 1, -9: "frame", 0: ("at", 0)})
        self.assertEqual(list(heap.fields(0).items()), [("a", 2), ("b", None), ("c", 1)])
        self.assertEqual(list(heap.fields(1).items()), [(-9, "frame"), (0, ("at", 0)), (3, 1)])
        heap.fields(0)["d"] = 5
        del heap.fields(0)["a"]
        self.assertEqual(heap.fields(0), {"a": 2, "b": None, "c": 1})

    def test_get_and_has(self):
        heap = made({"a": 7, "b": None}, {1: "w", 0: ("at", 0)})
        self.assertEqual([heap.get(0, "a"), heap.get(0, "b"), heap.get(1, 1), heap.get(1, 0)], [7, None, "w", ("at", 0)])
        self.assertIs(heap.has(0, "a"), True)
        self.assertIs(heap.has(0, "b"), True)
        self.assertIs(heap.has(0, "c"), False)
        self.assertIs(heap.has(1, "a"), False)
        self.assertIs(heap.has(1, 0), True)

    def test_truths_are_no_fields(self):
        heap = made({1: "w", 0: 5})
        for field in [True, False]:
            self.assertIs(heap.has(0, field), False)
            with self.assertRaises(NoField) as caught:
                heap.get(0, field)
            self.assertIs(caught.exception.field, field)

    def test_any_value_as_field(self):
        heap = made({})
        for field in STRANGE:
            self.assertIs(heap.has(0, field), False)
            with self.assertRaises(NoField) as caught:
                heap.get(0, field)
            self.assertEqual(caught.exception.number, 0)
            self.assertIs(caught.exception.field, field)

    def test_gone_for_what_is_no_cell(self):
        heap = made({"a": 1}, {"a": 2})
        heap.free([1])
        for number in NO_NUMBERS + [1]:
            for asked in [lambda: heap.fields(number), lambda: heap.get(number, "a"), lambda: heap.get(number, "z"),
                          lambda: heap.has(number, "a"), lambda: heap.put(number, "a", 1)]:
                with self.assertRaises(Gone) as caught:
                    asked()
                self.assertIs(caught.exception.number, number)
        self.assertEqual(heap, made({"a": 1}))

    def test_put(self):
        heap = made({"a": 1}, {})
        self.assertIsNone(heap.put(0, "a", ("at", 1)))
        self.assertIsNone(heap.put(0, "b", None))
        self.assertIsNone(heap.put(1, -3, "w"))
        self.assertEqual([heap.fields(0), heap.fields(1)], [{"a": ("at", 1), "b": None}, {-3: "w"}])
        heap.put(1, -3, ("at", 1))
        self.assertEqual(heap.get(1, -3), ("at", 1))

    def test_put_of_what_is_gone(self):
        heap = made({"a": 1}, {})
        heap.free([1])
        for number, value, gone in [(0, ("at", 1), 1), (0, ("at", 8), 8), (9, ("at", 1), 9), (1, ("at", 1), 1),
                                    (7, ("at", 0), 7)]:
            with self.assertRaises(Gone) as caught:
                heap.put(number, "a", value)
            self.assertEqual(caught.exception.number, gone)
        self.assertEqual(heap.fields(0), {"a": 1})


class TestReached(unittest.TestCase):
    def test_ways(self):
        heap = made({"a": ("at", 1), "b": ("at", 2)}, {0: ("at", 1)}, {}, {"a": ("at", 0)}, {"a": ("at", 4)})
        self.assertEqual(heap.reached([]), [])
        self.assertEqual(heap.reached([5, "at", None]), [])
        self.assertEqual(heap.reached([("at", 2), ("at", 2)]), [2])
        self.assertEqual(heap.reached([("at", 1)]), [1])
        self.assertEqual(heap.reached([7, ("at", 3)]), [0, 1, 2, 3])
        self.assertEqual(heap.reached([("at", 4), ("at", 2)]), [2, 4])

    def test_gone(self):
        heap = made({"a": ("at", 1), "b": ("at", 3)}, {"a": ("at", 2)}, {"a": ("at", 4)}, {}, {})
        heap.free([3, 4])
        self.assertEqual(heap.numbers(), [0, 1, 2])
        for values, number in [([("at", 0)], 3), ([("at", 1)], 4), ([("at", 9), ("at", 7)], 7),
                               ([("at", 9), ("at", 2)], 4), ([("at", 9), ("at", 0)], 3)]:
            with self.assertRaises(Gone) as caught:
                heap.reached(values)
            self.assertEqual(caught.exception.number, number)
        heap.put(0, "b", None)
        heap.put(2, "a", 0)
        self.assertEqual(heap.reached([("at", 0)]), [0, 1, 2])

    def test_what_is_handed_in_stays(self):
        heap = made({"a": ("at", 1)}, {})
        values = [("at", 0)]
        heap.reached(values)
        numbers = [1]
        heap.free(numbers)
        self.assertEqual([values, numbers], [[("at", 0)], [1]])

    def test_a_long_way(self):
        heap = made({}, *[{"a": ("at", number)} for number in range(3000)])
        self.assertEqual(len(heap.reached([("at", 3000)])), 3001)


class TestCopied(unittest.TestCase):
    def test_a_copy_goes_on_by_itself(self):
        heap = made({"a": 1}, {})
        heap.free([1])
        other = heap.copied()
        self.assertEqual(other, heap)
        self.assertEqual(other.new({}), 2)
        other.put(0, "a", 2)
        self.assertEqual([heap.fields(0), heap.numbers()], [{"a": 1}, [0]])
        heap.put(0, "b", 3)
        self.assertEqual([other.fields(0), heap.new({})], [{"a": 2}, 2])
        heap.free([0])
        self.assertEqual(other.numbers(), [0, 2])

    def test_equal(self):
        one, other = made({"a": 1, "b": ("at", 1)}, {}), Heap()
        other.new({})
        self.assertFalse(one == other)
        other.new({})
        other.put(0, "b", ("at", 1))
        self.assertTrue(one != other)
        other.put(0, "a", 1)
        self.assertTrue(one == other)
        self.assertFalse(one != other)
        other.free([1])
        self.assertFalse(one == other)
        self.assertTrue(Heap() == Heap())

    def test_equal_whatever_was_made_and_freed(self):
        one, other = made({}, {"a": 1}), made({}, {"a": 1}, {})
        other.free([2])
        self.assertTrue(one == other)
        one.free([0])
        renamed = made({"a": 1})
        self.assertFalse(one == renamed)
        self.assertFalse(made({"a": 1}) == made({"a": 1, "b": None}))
        self.assertFalse(made({"a": 0}) == made({"a": None}))

    def test_equal_to_nothing_else(self):
        for thing in STRANGE:
            if not isinstance(thing, Heap):
                self.assertIs(Heap() == thing, False)
                self.assertIs(Heap() != thing, True)
                self.assertIs(thing == Heap(), False)


if __name__ == "__main__":
    unittest.main()
