import random
import unittest

from reachkept.courses import Course, collected, next_steps, played
from reachkept.errors import NoStep, Stopped
from reachkept.heaps import Heap
from tests.collector import Collector, Refused, all_steps
from tests.test_heaps import made
from tests.things import STRANGE

HEADS = [(scan, roots, fresh) for scan in ("fields", "whole") for roots in ("again", "kept", "once")
         for fresh in ("black", "grey", "white")]
LOTS = [(), ("back",), ("back", "new"), ("back", "new", "old"), ("back", "old"), ("new",), ("new", "old"), ("old",)]
BARE = ("whole", "kept", "black", (), (), ())


def at(number):
    return ("at", number)


def plan(scan="whole", roots="kept", fresh="black", black=(), grey=(), white=()):
    return (scan, roots, fresh, black, grey, white)


def state(course):
    heap = course.heap()
    return [{number: heap.fields(number) for number in heap.numbers()}, course.colours(),
            {number: course.open_fields(number) for number in heap.numbers()}, course.lost(), course.steps()]


class Courses(unittest.TestCase):
    def course(self, rules, *steps, cells=({"a": at(1)}, {"a": at(2)}, {}), roots=(0,)):
        course = Course(made(*cells), roots, rules)
        for step in steps:
            self.assertIsNone(course.do(step))
        self.assertEqual(course.steps(), list(steps))
        return course

    def shows(self, course, colours, **opened):
        """The colours of the cells from 0 on by their first letters, a dot for one that is gone."""
        words = {"b": "black", "g": "grey", "w": "white"}
        self.assertEqual(course.colours(), {number: words[sign] for number, sign in enumerate(colours) if sign != "."})
        for number in range(len(colours)):
            self.assertEqual(course.open_fields(number), opened.get("of" + str(number), []), number)

    def refuses(self, course, *steps):
        for step in steps:
            ahead = state(course)
            with self.assertRaises(NoStep):
                course.do(step)
            self.assertEqual(state(course), ahead, step)


class TestExample(Courses):
    def test_the_example_of_the_document(self):
        three = made({}, {"f": at(0)}, {"a": at(1)})
        course = Course(three, (2,), BARE)
        for step in [("begin",), ("scan", 2), ("put", 2, "b", at(0)), ("put", 1, "f", None), ("scan", 1)]:
            self.assertIsNone(course.do(step))
        self.assertEqual([course.colours(), course.do(("end",)), course.lost()],
                         [{0: "white", 1: "black", 2: "black"}, None, [0]])
        self.assertEqual([course.heap().numbers(), course.colours(), three.numbers()], [[1, 2], {}, [0, 1, 2]])


class TestBegin(Courses):
    def test_roots(self):
        cells = ({"a": at(1), "b": at(2), "c": at(0)}, {"a": at(3)}, {"a": at(0)}, {})
        self.shows(self.course(plan(), ("begin",), cells=cells), "gwww", of0=["a", "b", "c"])
        self.shows(self.course(plan(), ("begin",), cells=cells, roots=(0, 2)), "gwgw", of0=["a", "b", "c"], of2=["a"])
        for roots in ("again", "once"):
            self.shows(self.course(plan(roots=roots), ("begin",), cells=cells), "bggw", of1=["a"], of2=["a"])
            self.shows(self.course(plan(roots=roots), ("begin",), cells=cells, roots=(0, 2)), "bgbw", of1=["a"])
            self.shows(self.course(plan("fields", roots), ("begin",), cells=cells, roots=(2, 3)), "gwbb", of0=["a", "b", "c"])

    def test_when_it_is_idle(self):
        course = self.course(plan())
        self.shows(course, "")
        self.refuses(course, ("end",), ("scan", 0), ("scan", 0, "a"))
        course.do(("begin",))
        self.refuses(course, ("begin",))
        for step in [("scan", 0), ("scan", 1), ("scan", 2), ("end",), ("begin",), ("scan", 0)]:
            course.do(step)
        self.shows(course, "bgw", of1=["a"])

    def test_heaps_with_what_is_gone(self):
        heap = made({"a": at(1), "b": at(2)}, {"a": at(3)}, {}, {})
        heap.free([1, 3])
        for roots in ("again", "kept", "once"):
            course = Course(heap, (0,), plan("fields", roots))
            course.do(("begin",))
            while next_steps(course)[0] != ("end",):
                course.do(next_steps(course)[0])
            course.do(("end",))
            self.assertEqual([course.lost(), course.heap().numbers()], [[], [0, 2]])
        self.refuses(Course(heap, (0,), BARE), ("put", 0, "c", at(1)), ("put", 1, "a", None))
        self.assertEqual(collected(heap, (0,), BARE), [])


class TestScan(Courses):
    def test_fields(self):
        cells = ({"a": at(1), "b": at(2), "c": 5}, {}, {"d": at(2)})
        course = self.course(plan("fields"), ("begin",), ("scan", 0, "b"), cells=cells)
        self.shows(course, "gwg", of0=["a", "c"], of2=["d"])
        self.refuses(course, ("scan", 0), ("scan", 0, "b"), ("scan", 0, "d"), ("scan", 1), ("scan", 1, "a"), ("scan", 2), ("end",))
        for step in [("scan", 0, "c"), ("scan", 0, "a"), ("scan", 0), ("scan", 2, "d")]:
            course.do(step)
        self.shows(course, "bgg")
        self.refuses(course, ("scan", 0), ("scan", 0, "a"), ("end",))
        course.do(("scan", 1))
        course.do(("scan", 2))
        self.shows(course, "bbb")

    def test_a_cell_whose_fields_are_scanned_shades_no_more(self):
        # The white cell that was put into the scanned field stays so.
        course = self.course(plan("fields"), ("begin",), ("scan", 0, "b"), ("put", 0, "b", at(2)), ("put", 0, "a", None),
                             ("scan", 0, "a"), ("scan", 0), cells=({"a": at(1), "b": 0}, {"a": at(2)}, {}))
        self.shows(course, "bww")

    def test_whole(self):
        cells = ({"a": at(1), "b": at(2), "c": at(0)}, {"a": at(3)}, {}, {})
        course = self.course(plan(), ("begin",), ("scan", 0), cells=cells)
        self.shows(course, "bggw", of1=["a"])
        self.refuses(course, ("scan", 0), ("scan", 1, "a"), ("scan", 3), ("end",))
        course.do(("scan", 1))
        self.shows(course, "bbgg")

    def test_integers_as_fields(self):
        cells = ({-9: 3, 0: at(1), 1: 2}, {})
        course = self.course(plan("fields"), ("begin",), ("scan", 0, -9), cells=cells)
        self.shows(course, "gw", of0=[0, 1])
        self.refuses(course, ("scan", 0, True), ("scan", 0, False), ("scan", False, 0), ("scan", 0, 2), ("scan", 0, "a"))
        self.assertEqual([course.open_fields(False), course.open_fields("a"), course.open_fields([]), course.open_fields(9)], [[]] * 4)


class TestPut(Courses):
    CELLS = ({"a": at(1), "b": at(2)}, {"a": at(3), "d": 7}, {"a": at(4)}, {"a": at(5)}, {}, {}, {"a": at(0)})

    def behind(self, word, colour, *steps, scan="whole", roots="kept", cells=None, fresh="black"):
        """A course in which the cell 1 is black, grey or white, whose lot has this word alone; then these steps."""
        lots = {colour: (word,) if word else ()}
        ahead = {"white": [("begin",)], "grey": [("begin",), ("scan", 0)], "black": [("begin",), ("scan", 0), ("scan", 1)]}[colour]
        if scan == "fields":
            ahead = [step for cell in ahead for step in ([cell] if len(cell) == 1 else
                     [("scan", cell[1], field) for field in sorted((cells or self.CELLS)[cell[1]])] + [cell])]
        return self.course(plan(scan, roots, fresh, **lots), *ahead, *steps, cells=cells or self.CELLS)

    def test_no_word(self):
        self.shows(self.behind(None, "black", ("put", 1, "a", at(4))), "bbggwww", of2=["a"], of3=["a"])
        self.shows(self.behind(None, "grey", ("put", 1, "a", at(4))), "bggwwww", of1=["a", "d"], of2=["a"])
        self.shows(self.behind(None, "white", ("put", 1, "a", at(4))), "gwwwwww", of0=["a", "b"])

    def letters(self, course):
        colours = course.colours()
        return "".join(colours[number][0] for number in sorted(colours))

    def test_new_and_back(self):
        for word, colour, expected, opened in [
                ("new", "black", "bbggwgw", []), ("back", "black", "bgggwww", ["a", "d"]), ("new", "grey", "bggwwgw", ["a", "d"]),
                ("back", "grey", "bggwwww", ["a", "d"]), ("new", "white", "gwwwwgw", []), ("back", "white", "ggwwwww", ["a", "d"])]:
            course = self.behind(word, colour, ("put", 1, "a", at(5)))
            self.assertEqual([self.letters(course), course.open_fields(1)], [expected, opened], (word, colour))

    def test_old(self):
        for colour, ahead, expected in [("grey", "bggwwww", "bgggwww"), ("white", "gwwwwww", "gwwgwww")]:
            course = self.behind("old", colour)
            self.assertEqual(self.letters(course), ahead)
            course.do(("put", 1, "a", None))
            self.assertEqual(self.letters(course), expected)
        # What the black cell held when it was scanned is grey already, so it is given a white one first.
        course = self.behind("old", "black", ("put", 1, "e", at(5)))
        self.assertEqual(self.letters(course), "bbggwww")
        course.do(("put", 1, "e", at(2)))
        self.assertEqual(self.letters(course), "bbggwgw")

    def test_several_words(self):
        course = self.behind(None, "white")
        other = self.course(plan(white=("back", "new", "old")), *course.steps(), ("put", 1, "a", at(5)), cells=self.CELLS)
        self.assertEqual([self.letters(other), other.open_fields(1), other.open_fields(5)], ["ggwgwgw", ["a", "d"], []])

    def test_words_of_other_colours_count_for_nothing(self):
        for word in ("back", "new", "old"):
            for colour in ("black", "grey", "white"):
                others = {other: (word,) for other in ("black", "grey", "white") if other != colour}
                steps = self.behind(None, colour).steps() + [("put", 1, "a", at(5)), ("put", 1, "e", at(4)), ("put", 1, "e", 0)]
                bare = self.course(plan(), *steps, cells=self.CELLS)
                other = self.course(plan(**others), *steps, cells=self.CELLS)
                self.assertEqual(state(bare)[:3], state(other)[:3])

    def test_values_that_are_no_cells(self):
        for colour in ("black", "grey", "white"):
            for word in ("back", "new"):
                for value in (0, None, "w", 10 ** 40):
                    course = self.behind(word, colour, ("put", 1, "a", value))
                    other = self.behind(None, colour, ("put", 1, "a", value))
                    self.assertEqual(state(course), state(other))
                    self.assertEqual(course.heap().get(1, "a"), value)

    def test_old_of_a_field_that_held_no_cell_or_was_not_there(self):
        for field in ("d", "e"):
            for colour in ("black", "grey", "white"):
                self.assertEqual(state(self.behind("old", colour, ("put", 1, field, at(5))))[1],
                                 state(self.behind(None, colour, ("put", 1, field, at(5))))[1])

    def test_fields_that_a_grey_cell_did_not_have_are_open(self):
        course = self.behind(None, "grey", ("put", 1, "e", at(5)), ("put", 1, "c", 3))
        self.assertEqual(course.open_fields(1), ["a", "c", "d", "e"])
        course = self.course(plan("fields"), ("begin",), ("scan", 0, "a"), ("put", 0, "a", at(3)), ("put", 0, "e", at(3)), ("scan", 0, "b"),
                             ("put", 0, "b", 4), cells=self.CELLS)
        self.shows(course, "gggwwww", of0=["e"], of1=["a", "d"], of2=["a"])

    def test_back_of_a_grey_cell_opens_all_its_fields(self):
        steps = [("begin",), ("scan", 0, "a"), ("scan", 0, "b")]
        course = self.course(plan("fields", grey=("back",)), *steps, ("put", 0, "a", 3), cells=self.CELLS)
        self.assertEqual(course.open_fields(0), [])
        course.do(("put", 0, "c", at(4)))
        self.assertEqual([course.open_fields(0), course.colours()[0]], [["a", "b", "c"], "grey"])

    def test_a_cell_that_holds_itself(self):
        cells = ({"a": at(1)}, {"a": at(1), "b": 2}, {})
        for word, expected in [("old", "g"), ("new", "w")]:
            course = self.course(plan(white=(word,)), ("begin",), ("put", 1, "a", None), cells=cells)
            self.shows(course, "g" + expected + "w", of0=["a"], **({"of1": ["a", "b"]} if expected == "g" else {}))
        course = self.course(plan(white=("new",)), ("begin",), ("put", 1, "c", at(1)), cells=cells)
        self.shows(course, "ggw", of0=["a"], of1=["a", "b", "c"])
        course = self.course(plan(black=("back",)), ("begin",), ("scan", 0), ("scan", 1), ("put", 1, "b", at(1)), cells=cells)
        self.shows(course, "bgw", of1=["a", "b"])
        course = self.course(plan(), ("begin",), ("scan", 0), ("scan", 1), cells=cells)
        self.shows(course, "bbw")

    def test_roots(self):
        steps = [("begin",), ("put", 0, "e", at(4)), ("put", 0, "b", at(3)), ("fresh", 0, "f")]
        full = {colour: ("back", "new", "old") for colour in ("black", "grey", "white")}
        self.shows(self.course(plan(**full), *steps, cells=self.CELLS), "gwgggwwb", of0=["a", "b", "e", "f"], of2=["a"], of3=["a"])
        for roots in ("again", "once"):
            self.shows(self.course(plan(roots=roots, fresh="white", **full), *steps, cells=self.CELLS), "bggwwwww", of1=["a", "d"],
                       of2=["a"])

    def test_when_it_is_idle(self):
        course = self.course(plan(black=("new",), white=("back", "new", "old")), ("put", 1, "a", at(4)), ("fresh", 1, "d"),
                             ("put", 0, "a", None), cells=self.CELLS)
        self.assertEqual([course.colours(), course.heap().fields(1), course.heap().numbers()],
                         [{}, {"a": at(4), "d": at(7)}, list(range(8))])
        self.refuses(course, ("put", 1, "a", 0), ("put", 0, "a", at(3)), ("put", 0, "a", at(7)))
        course.do(("put", 2, "b", at(4)))

    def test_what_is_not_reached(self):
        course = self.course(plan(), cells=self.CELLS)
        self.refuses(course, ("put", 6, "a", 0), ("put", 0, "a", at(6)), ("fresh", 6, "b"), ("put", 7, "a", 0), ("put", 0, "a", at(7)))
        course.do(("put", 0, "b", None))
        self.refuses(course, ("put", 2, "a", 0), ("put", 0, "b", at(2)), ("put", 0, "b", at(4)))

    def test_fields_of_another_sort(self):
        course = self.course(plan(), cells=({"a": at(1), "b": at(2)}, {0: 1}, {}))
        self.refuses(course, ("put", 0, 0, 1), ("put", 1, "a", 1), ("fresh", 0, -9), ("fresh", 1, "b"))
        course.do(("put", 2, 7, 1))
        self.refuses(course, ("put", 2, "a", 1))
        course.do(("put", 1, -10 ** 30, 1))

    def test_fresh(self):
        for fresh in ("black", "grey", "white"):
            course = self.behind(None, "black", ("fresh", 1, "a"), ("fresh", 7, "x"), fresh=fresh)
            self.shows(course, "bbggwww" + fresh[0] * 2, of2=["a"], of3=["a"], **({"of7": ["x"]} if fresh == "grey" else {}))
            self.assertEqual([course.heap().fields(1), course.heap().fields(7), course.heap().fields(8)],
                             [{"a": at(7), "d": 7}, {"x": at(8)}, {}])
        for word, expected in [("new", "bbggwwwg"), ("back", "bgggwwww"), ("old", "bbggwwww")]:
            course = self.behind(word, "black", ("fresh", 1, "a"), fresh="white")
            self.assertEqual(self.letters(course), expected)


class TestEnd(Courses):
    def test_when_no_cell_is_grey(self):
        course = self.course(plan(), ("begin",), cells=({"a": at(1)}, {}, {}, {"a": at(2)}))
        self.refuses(course, ("end",))
        course.do(("scan", 0))
        self.refuses(course, ("end",))
        course.do(("scan", 1))
        course.do(("end",))
        self.assertEqual([course.heap().numbers(), course.lost(), course.colours()], [[0, 1], [], {}])
        course.do(("fresh", 0, "b"))
        self.assertEqual(course.heap().numbers(), [0, 1, 4])
        self.refuses(course, ("end",))

    def test_roots_again(self):
        cells = ({"a": at(1)}, {"a": at(2)}, {"a": at(3)}, {}, {"a": at(1)})
        for scan in ("whole", "fields"):
            scans = [("scan", 1)] if scan == "whole" else [("scan", 1, "a"), ("scan", 1)]
            steps = [("begin",), ("put", 0, "b", at(2)), ("put", 0, "d", at(3)), ("put", 1, "a", None), *scans, ("end",)]
            for roots, lost in [("again", []), ("once", [2, 3])]:
                # The cell 3 is held by a root, too, or just by what that one holds.
                for some in (steps, steps[:2] + steps[3:]):
                    course = self.course(plan(scan, roots), *some, cells=cells)
                    self.assertEqual([course.lost(), course.heap().numbers()], [lost, [0, 1] if lost else [0, 1, 2, 3]])

    def test_all_is_refused_from_then_on(self):
        course = self.course(plan(), ("begin",), ("scan", 0), ("put", 0, "b", at(2)), ("put", 1, "a", None), ("scan", 1), ("end",))
        self.assertEqual([course.lost(), course.colours(), course.heap().fields(0)], [[2], {}, {"a": at(1), "b": at(2)}])
        self.refuses(course, ("begin",), ("end",), ("put", 0, "a", 0), ("fresh", 0, "a"), ("scan", 0), None)
        self.assertEqual(next_steps(course), [])

    def test_several_lost_cells(self):
        steps = [("begin",), ("scan", 0), ("put", 0, "b", at(2)), ("put", 1, "a", None), ("scan", 1), ("end",)]
        course = self.course(plan(), *steps, cells=({"a": at(1)}, {"a": at(2)}, {"a": at(4)}, {}, {}))
        self.assertEqual([course.lost(), course.heap().numbers()], [[2, 4], [0, 1]])

    def test_cells_that_are_freed_and_were_not_reached(self):
        course = self.course(plan(), ("begin",), ("scan", 0), ("put", 0, "a", None), ("scan", 1), ("scan", 2), ("end",))
        self.assertEqual([course.lost(), course.heap().numbers()], [[], [0, 1, 2]])
        for step in [("begin",), ("scan", 0), ("end",)]:
            course.do(step)
        self.assertEqual([course.lost(), course.heap().numbers()], [[], [0]])


class TestStepsThatAreNone(Courses):
    def test_any_value(self):
        for rules in (plan(), plan("fields", "again")):
            for steps in ([], [("begin",)]):
                course = self.course(rules, *steps)
                self.refuses(course, *STRANGE)

    def test_forms(self):
        course = self.course(plan("fields"), ("begin",))
        self.refuses(course, ["begin"], ("begin", 0), ("scan",), ["scan", 0, "a"], ("scan", 0, "a", 0), ("scan", [0], "a"),
                     ("scan", 0, ["a"]), ("scan", 0, None), ("put", 0, "a"), ("put", 0, "a", 0, 0), ["put", 0, "a", 0], ("fresh", 0),
                     ("fresh", 0, "a", 0), "begin", "end", ("Begin",), (("begin",),), ("begin", ), ("end", None), ("free", 0))
        numbers = [thing for thing in STRANGE + [-1, 3, 10 ** 30] if type(thing) is not int or thing not in range(3)]
        self.refuses(course, *[("put", number, "a", 0) for number in numbers],
                     *[("put", 0, field, 0) for field in STRANGE if type(field) is not str or field not in ("a",)],
                     *[("put", 0, "a", value) for value in STRANGE + [at(True), at("0"), at(-1), ["at", 0], ("at", 0, 0), at(5)]
                       if value is not None and type(value) is not int and value != "a"])
        self.refuses(course, *[("fresh", number, "a") for number in numbers], *[("scan", number, "a") for number in numbers],
                     *[("scan", 0, field) for field in STRANGE if field != "a"])

    def test_truths_are_no_numbers(self):
        course = self.course(plan("fields"), ("begin",))
        self.refuses(course, ("scan", False, "a"), ("put", False, "a", 0), ("fresh", False, "a"), ("put", 0, "a", True),
                     ("put", 0, "a", at(False)), ("put", 0, True, 1))
        self.refuses(self.course(plan(), ("begin",)), ("scan", False))


class TestTheCourseItself(Courses):
    def test_what_is_handed_in_stays_and_is_copied(self):
        heap = made({"a": at(1)}, {})
        course = Course(heap, (0,), plan())
        course.do(("fresh", 0, "b"))
        heap.put(0, "a", None)
        heap.new({})
        self.assertEqual([heap.fields(0), course.heap().fields(0), course.heap().numbers()],
                         [{"a": None}, {"a": at(1), "b": at(2)}, [0, 1, 2]])

    def test_what_is_returned_is_new(self):
        course = self.course(plan(), ("begin",))
        ahead = state(course)
        course.colours().clear()
        course.open_fields(0).append("x")
        course.lost().append(3)
        course.steps().clear()
        course.heap().free([0, 1, 2])
        self.assertEqual(state(course), ahead)
        self.assertEqual(list(course.colours()), [0, 1, 2])

    def test_copies_go_on_by_themselves(self):
        course = self.course(plan(), ("begin",), ("put", 0, "b", 1))
        other = course.copied()
        self.assertEqual([type(other), state(other)], [Course, state(course)])
        ahead = state(course)
        for step in [("scan", 0), ("fresh", 0, "c"), ("scan", 1), ("scan", 2), ("end",)]:
            other.do(step)
        self.assertEqual(state(course), ahead)
        behind = state(other)
        course.do(("scan", 0))
        self.assertEqual(state(other), behind)
        lost = self.course(plan(), ("begin",), ("scan", 0), ("put", 0, "b", at(2)), ("put", 1, "a", None), ("scan", 1), ("end",))
        self.assertEqual(lost.copied().lost(), [2])
        self.refuses(lost.copied(), ("begin",))

    def test_played(self):
        heap = made({"a": at(1)}, {})
        steps = [("begin",), ("scan", 0), ("put", 1, "f", 3)]
        course = played(heap, (0,), plan(), steps)
        self.assertEqual([course.steps(), course.heap().fields(1), heap.fields(1)], [steps, {"f": 3}, {}])
        for index, wrong in [(0, None), (0, ("end",)), (1, ("begin",)), (2, ("scan", 0)), (3, ("end",)), (3, True), (3, [])]:
            with self.assertRaises(Stopped) as caught:
                played(heap, (0,), plan(), steps[:index] + [wrong] + steps[index:])
            self.assertEqual(caught.exception.index, index)
        with self.assertRaises(Stopped) as caught:
            played(heap, (0,), plan(), steps + [("end",), "no", ("scan", 1)])
        self.assertEqual(caught.exception.index, 3)
        self.assertEqual(played(heap, (0,), plan(), []).steps(), [])

    def test_next_steps(self):
        course = self.course(plan("fields"), cells=({"a": at(1), "b": at(2)}, {}, {0: 1, -1: 2}))
        self.assertEqual(next_steps(course), [("begin",)])
        course.do(("begin",))
        self.assertEqual(next_steps(course), [("scan", 0, "a"), ("scan", 0, "b")])
        course.do(("scan", 0, "a"))
        self.assertEqual(next_steps(course), [("scan", 0, "b"), ("scan", 1)])
        course.do(("scan", 0, "b"))
        self.assertEqual(next_steps(course), [("scan", 0), ("scan", 1), ("scan", 2, -1), ("scan", 2, 0)])
        for step in [("scan", 0), ("scan", 1), ("scan", 2, 0), ("scan", 2, -1), ("scan", 2)]:
            course.do(step)
        self.assertEqual(next_steps(course), [("end",)])
        self.assertEqual(next_steps(self.course(plan(), ("begin",), ("scan", 0))), [("scan", 1)])

    def test_collected(self):
        heap = made({"a": at(1)}, {"a": at(0)}, {"a": at(1), "b": at(3)}, {"a": at(2)}, {})
        for head in HEADS:
            for lots in [((), (), ()), (("new",), ("old",), ("back",))]:
                self.assertEqual(collected(heap, (0,), (*head, *lots)), [2, 3, 4])
                self.assertEqual(collected(heap, (0, 4), (*head, *lots)), [2, 3])
                self.assertEqual(collected(heap, (3,), (*head, *lots)), [4])
                course = played(heap, (0,), (*head, *lots), [("begin",)])
                while next_steps(course)[0] != ("end",):
                    course.do(next_steps(course)[-1])
                course.do(("end",))
                self.assertEqual([course.heap().numbers(), course.lost()], [[0, 1], []])
        self.assertEqual(heap.numbers(), [0, 1, 2, 3, 4])


class TestByChance(Courses):
    def test_as_the_other_collector(self):
        chance = random.Random(71)
        for _ in range(500):
            cells = [{field: chance.choice([0, None, at(chance.randrange(4)), at(chance.randrange(4))])
                      for field in "ab" if chance.random() < 0.6} for _ in range(4)]
            rules = (*chance.choice(HEADS), *[chance.choice(LOTS) for _ in range(3)])
            roots = tuple(sorted(chance.sample(range(4), chance.choice([1, 1, 2]))))
            course, other = Course(made(*cells), roots, rules), Collector(made(*cells), roots, rules)
            for _ in range(25):
                steps = all_steps(other.cells, other.made)
                step = chance.choice(next_steps(course) or steps) if chance.random() < 0.4 else chance.choice(steps)
                try:
                    other.do(step)
                except Refused:
                    self.refuses(course, step)
                    continue
                course.do(step)
                heap = course.heap()
                self.assertEqual({number: heap.fields(number) for number in heap.numbers()}, other.cells)
                self.assertEqual([course.colours(), course.lost()], [other.colours or {}, other.lost])
                for number in other.cells:
                    self.assertEqual(course.open_fields(number), other.opened(number))


if __name__ == "__main__":
    unittest.main()
