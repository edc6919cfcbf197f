import unittest

from reachkept.checking import faults
from reachkept.errors import Over, Wrong
from reachkept.frames import is_state
from reachkept.machines import Machine
from tests.test_checking import END, codes, make, maker, module
from tests.things import STRANGE

LIMIT = 10 ** 30


def cells(machine):
    heap = machine.heap()
    return {number: heap.fields(number) for number in heap.numbers()}


class Machines(unittest.TestCase):
    def machine(self, *some, order=(0,), ticks=50):
        self.assertEqual(faults((some, order)), [])
        return Machine((some, order), ticks)

    def tells(self, expected, *ops, size=4, others=(), ticks=50, end=("done",)):
        """A module with these ops and an end tells this."""
        machine = self.machine(module(*ops, END, size=size), *others, ticks=ticks)
        self.assertEqual([machine.run(), machine.end()], [expected, end])
        return machine

    def throws(self, expected, *ops, size=4, others=()):
        """The last of these ops throws this, within a try and outside of one."""
        some = (module(*ops, END, size=size), *others)
        machine = self.machine(*some)
        self.assertEqual([machine.run(), machine.end()], [[], ("thrown", expected)])
        self.assertIs(is_state((some, (0,)), machine.heap()), True)
        many = len(ops)
        again = self.machine(module(*ops[:-1], ("try", many + 2, 3), ops[-1], ("untry",), ("tell", 3), END, size=size), *others)
        self.assertEqual([again.run(), again.end(), again.left()], [[expected], ("done",), machine.left()])
        self.assertEqual(again.done(), machine.done() + 3)
        return machine


class TestBegin(Machines):
    def test_the_first_cells(self):
        machine = self.machine(module(END), make(END), module(END, size=3), order=(2, 0), ticks=7)
        self.assertEqual(cells(machine), {
            0: {-9: "root", 0: ("at", 1), 1: ("at", 1), 2: None},
            1: {-9: "frame", -5: 0, -4: 2, -3: None, -2: None, -1: None, 0: None, 1: None, 2: None}})
        self.assertEqual([machine.told(), machine.end(), machine.left(), machine.done()], [[], None, 7, 0])

    def test_the_example_of_the_document(self):
        twice = (1, 2, "make", 0, (("work", 1, "add", 0, 0), ("back", 1)))
        top = (0, 3, "module", None, (("close", 0, 1), ("keep", 1, 21), ("call", 2, 0, (1,)), ("tell", 2), END))
        machine = Machine(((top, twice), (0,)), 9)
        self.assertEqual([machine.step(), machine.step(), machine.step()], [[], [], []])
        self.assertEqual([machine.heap().numbers(), machine.heap().get(3, -2), machine.heap().get(1, -5)],
                         [[0, 1, 2, 3], ("at", 1), 2])
        self.assertEqual([machine.run(), machine.end(), machine.left(), machine.done()], [[42], ("done",), 8, 7])
        self.assertEqual([machine.heap().get(1, 2), machine.heap().get(0, 0)], [42, None])

    def test_wrong_codes(self):
        sound = codes(module(END))
        for thing in STRANGE + [codes(module(("tell", 0))), codes(module(("tell", 2), END)), codes(module(("jump", 5))),
                                codes(module(("untry",), END)), list(sound), (list(sound[0]), (0,)), sound[:1],
                                (sound[0], [0]), (sound[0], (1,)), (sound[0], (True,)), codes(module(("back", 0))),
                                codes((0, 1, "module", None, (("keep", 0, True), END)))]:
            for ticks in [5, -1, True]:
                with self.assertRaises(Wrong) as caught:
                    Machine(thing, ticks)
                self.assertEqual(caught.exception.place, 0)

    def test_wrong_ticks(self):
        for thing in STRANGE + [-1, False, True, None, "5", (5,)]:
            if type(thing) is not int or thing < 0:
                with self.assertRaises(Wrong) as caught:
                    Machine(codes(module(END)), thing)
                self.assertEqual(caught.exception.place, 1)
        self.assertEqual(Machine(codes(module(END)), 10 ** 39).left(), 10 ** 39)


class TestOps(Machines):
    def test_keep_move_and_tell(self):
        self.tells([5, 5, "w", "nothing", -3, "nothing"], ("keep", 0, 5), ("tell", 0), ("move", 1, 0), ("tell", 1), ("keep", 1, "w"),
                   ("tell", 1), ("keep", 1, None), ("tell", 1), ("keep", 1, -3), ("move", 1, 1), ("tell", 1), ("tell", 2))

    def test_one_step_each(self):
        machine = self.machine(module(("keep", 0, 5), ("move", 1, 0), ("tell", 1), END))
        self.assertEqual([machine.step(), machine.heap().fields(1)],
                         [[], {-9: "frame", -5: 1, -4: 0, -3: None, -2: None, -1: None, 0: 5, 1: None}])
        self.assertEqual([machine.step(), machine.heap().get(1, 1), machine.heap().get(1, -5)], [[], 5, 2])
        self.assertEqual([machine.step(), machine.told(), machine.done()], [[5], [5], 3])
        self.assertEqual([machine.step(), machine.told(), machine.done(), machine.end()], [[], [5], 4, ("done",)])
        self.assertEqual(machine.heap().get(1, -5), 3)

    def test_works(self):
        for op, one, other, expected in [
                ("add", 2, 3, 5), ("sub", 2, 3, -1), ("mul", -2, 3, -6), ("quo", -7, 2, -4), ("rest", -7, 2, 1), ("rest", 7, -2, -1),
                ("less", 1, 2, 1), ("less", 2, 2, 0), ("same", 2, 2, 1), ("same", 2, 3, 0), ("same", "w", "w", 1),
                ("same", "w", "v", 0), ("same", None, None, 1), ("same", None, 0, 0), ("add", LIMIT, 0, LIMIT)]:
            self.tells([expected], ("keep", 0, one), ("keep", 1, other), ("work", 0, op, 0, 1), ("tell", 0))
        for op, one, other, expected in [
                ("add", "w", 3, "kind"), ("less", None, 3, "kind"), ("quo", 1, None, "kind"), ("quo", "w", 0, "kind"),
                ("quo", 1, 0, "nought"), ("rest", 1, 0, "nought"), ("add", LIMIT, 1, "great"), ("sub", -LIMIT, 1, "great"),
                ("mul", LIMIT, -2, "great")]:
            self.throws(expected, ("keep", 0, one), ("keep", 1, other), ("work", 2, op, 0, 1))

    def test_same_of_cells_and_functions(self):
        other = make(END)
        self.tells([1, 0, 1, 0, 0], ("cell", 0), ("cell", 1), ("work", 2, "same", 0, 0), ("tell", 2), ("work", 2, "same", 0, 1),
                   ("tell", 2), ("close", 0, 1), ("work", 2, "same", 0, 0), ("tell", 2), ("close", 1, 1),
                   ("work", 2, "same", 0, 1), ("tell", 2), ("work", 2, "same", 0, 3), ("tell", 2), others=[other])

    def test_what_a_work_that_throws_gives_no_value(self):
        self.tells([4], ("keep", 0, 4), ("try", 5, 1), ("work", 0, "quo", 0, 1), ("untry",), ("tell", 0), ("tell", 0))

    def test_cells(self):
        machine = self.tells([7, 1, "cell"], ("cell", 0), ("keep", 1, 7), ("store", 0, "f", 1), ("load", 2, 0, "f"), ("tell", 2),
                             ("keep", 1, 1), ("store", 0, "f", 1), ("store", 0, "g", 0), ("load", 2, 0, "f"), ("tell", 2),
                             ("load", 2, 0, "g"), ("tell", 2))
        self.assertEqual(machine.heap().fields(2), {"f": 1, "g": ("at", 2)})
        self.throws("lack", ("cell", 0), ("load", 1, 0, "f"))
        for value in [0, 5, "w", None]:
            self.throws("lack", ("keep", 0, value), ("load", 1, 0, "f"))
            self.throws("lack", ("keep", 0, value), ("store", 0, "f", 0))
        other = maker(END)
        for op in [("load", 1, 0, "f"), ("store", 0, "f", 0)]:
            self.throws("lack", ("close", 0, 1), op, others=[other])
            self.throws("lack", ("close", 0, 1), ("call", 0, 0, ()), op, others=[other])

    def test_is(self):
        kinds = ["cell", "function", "generator", "integer", "nothing", "word"]
        ways = {"cell": [("cell", 0)], "function": [("close", 0, 1)], "generator": [("close", 0, 1), ("call", 0, 0, ())],
                "integer": [("keep", 0, 0)], "nothing": [], "word": [("keep", 0, "frame")]}
        for kind in kinds:
            self.tells([int(kind == other) for other in kinds] + [{"integer": 0, "word": "frame"}.get(kind, kind)], *ways[kind],
                       *[op for other in kinds for op in (("is", 1, other, 0), ("tell", 1))], ("tell", 0), others=[maker(END)])

    def test_outer_and_into(self):
        inner = make(("outer", 0, 2, 1), ("outer", 1, 1, 0), ("into", 2, 2, 1), ("into", 1, 1, 0), ("back", 0), outer=1)
        middle = make(("keep", 0, 8), ("close", 1, 2), ("call", 0, 1, ()), ("tell", 0), ("back", 1))
        machine = self.tells([3, 3, 8], ("keep", 1, 3), ("close", 0, 1), ("call", 3, 0, ()), ("tell", 3), ("tell", 2),
                             others=[middle, inner])
        self.assertEqual(machine.heap().get(1, 2), 8)

    def test_other(self):
        lib = module(("keep", 0, 5), ("close", 1, 2), END)
        inner = make(("outer", 0, 1, 0), ("work", 0, "add", 0, 0), ("into", 1, 0, 0), END)
        top = module(("other", 1, 0, 1), ("call", 0, 1, ()), ("other", 0, 0, 0), ("tell", 0), ("close", 0, 3), ("call", 0, 0, ()),
                     ("tell", 0), END)
        within = make(("other", 1, 0, 0), ("work", 1, "add", 1, 1), ("back", 1), outer=1)
        machine = self.machine(lib, top, inner, within, order=(0, 1))
        self.assertEqual([machine.run(), machine.end()], [[10, 20], ("done",)])

    def test_other_of_several_modules(self):
        keeps = [module(("keep", 0, value), END) for value in (5, 6)]
        top = module(("other", 1, 1, 0), ("tell", 1), ("other", 1, 0, 0), ("tell", 1), END)
        self.assertEqual(self.machine(*keeps, top, order=(0, 1, 2)).run(), [6, 5])
        self.assertEqual(self.machine(*keeps, top, order=(1, 0, 2)).run(), [6, 5])

    def test_jumps(self):
        self.tells([1], ("jump", 2), ("tell", 0), ("keep", 0, 1), ("tell", 0))
        for value, expected in [(0, [2]), (None, [2]), (1, [1, 2]), (-1, [1, 2]), ("w", [1, 2])]:
            self.tells(expected, ("keep", 0, value), ("keep", 1, 1), ("keep", 2, 2), ("unless", 0, 5), ("tell", 1), ("tell", 2))
        self.tells(["end"], ("cell", 0), ("unless", 0, 4), ("keep", 1, "end"), ("tell", 1))

    def test_turns(self):
        ops = [("keep", 0, 3), ("keep", 1, 1), ("turn",), ("unless", 0, 7), ("tell", 0), ("work", 0, "sub", 0, 1), ("jump", 2)]
        self.assertEqual(self.tells([3, 2, 1], *ops, ticks=4).left(), 0)
        machine = self.tells([3, 2, 1], *ops, ticks=3, end=("ticks",))
        self.assertEqual([machine.left(), machine.heap().get(1, -5), machine.done()], [0, 2, 17])

    def test_close(self):
        machine = self.machine(module(("close", 1, 1), END), make(END))
        machine.step()
        self.assertEqual([machine.heap().fields(2), machine.heap().get(1, 1)], [{-9: "closure", 0: 1, 1: ("at", 1)}, ("at", 2)])


class TestCalls(Machines):
    def test_a_make(self):
        inner = make(("tell", 1), ("tell", 0), ("back", 1), many=2, size=3)
        machine = self.machine(module(("close", 0, 1), ("keep", 1, 5), ("keep", 2, "w"), ("call", 0, 0, (1, 2)), ("tell", 0), END,
                                      size=3), inner)
        for _ in range(4):
            machine.step()
        self.assertEqual(cells(machine)[3], {-9: "frame", -5: 0, -4: 1, -3: None, -2: ("at", 1), -1: ("at", 1), 0: 5, 1: "w", 2: None})
        self.assertEqual([machine.heap().get(0, 0), machine.heap().get(1, -5), machine.left()], [("at", 3), 3, 49])
        self.assertEqual([machine.step(), machine.step(), machine.step()], [["w"], [5], []])
        self.assertEqual(cells(machine)[3], {-9: "frame", -5: 2, -4: 1, -3: None, -2: None, -1: ("at", 1), 0: 5, 1: "w", 2: None})
        self.assertEqual([machine.heap().get(0, 0), machine.heap().get(1, -5), machine.heap().get(1, 0)], [("at", 1), 4, "w"])
        self.assertEqual(machine.run(), ["w"])

    def test_the_end_of_a_make(self):
        machine = self.tells(["nothing"], ("keep", 1, 5), ("close", 0, 1), ("call", 1, 0, ()), ("tell", 1), others=[make(END)])
        self.assertEqual([cells(machine)[3][-5], cells(machine)[3][-2]], [0, None])

    def test_a_maker(self):
        inner = maker(("tell", 0), ("yield", 0), ("keep", 0, 7), ("yield", 0), END, many=1)
        machine = self.machine(module(("close", 0, 1), ("keep", 1, 5), ("call", 0, 0, (1,)), ("next", 1, 0), ("next", 1, 0), ("next", 1, 0),
                                      END), inner)
        for _ in range(3):
            machine.step()
        self.assertEqual(cells(machine)[3], {-9: "frame", -5: 0, -4: 1, -3: ("at", 4), -2: None, -1: ("at", 1), 0: 5, 1: None})
        self.assertEqual(cells(machine)[4], {-9: "stepper", 0: ("at", 3), 1: 0})
        self.assertEqual([machine.heap().get(1, 0), machine.heap().get(1, -5), machine.heap().get(0, 0)], [("at", 4), 3, ("at", 1)])
        machine.step()
        self.assertEqual([cells(machine)[4], cells(machine)[3][-2], machine.heap().get(0, 0), machine.heap().get(1, -5)],
                         [{-9: "stepper", 0: ("at", 3), 1: 1}, ("at", 1), ("at", 3), 3])
        self.assertEqual([machine.step(), machine.step()], [[5], []])
        self.assertEqual([cells(machine)[4], cells(machine)[3][-2], cells(machine)[3][-5], machine.heap().get(0, 0)],
                         [{-9: "stepper", 0: ("at", 3), 1: 0}, None, 2, ("at", 1)])
        self.assertEqual([machine.heap().get(1, 1), machine.heap().get(1, -5), machine.left()], [5, 4, 48])
        self.assertEqual([machine.run(), machine.end(), machine.left()], [[], ("thrown", "over"), 46])
        self.assertEqual([cells(machine)[4], cells(machine)[3][-2], cells(machine)[3][-5], cells(machine)[1][-5]],
                         [{-9: "stepper", 0: None, 1: 0}, None, 4, 5])

    def test_kind(self):
        for value in [0, "w", None]:
            machine = self.throws("kind", ("keep", 0, value), ("call", 1, 0, ()))
            self.assertEqual(machine.left(), 50)
            self.throws("kind", ("keep", 0, value), ("next", 1, 0))
        self.throws("kind", ("cell", 0), ("call", 1, 0, ()))
        self.throws("kind", ("close", 0, 1), ("next", 1, 0), others=[maker(END)])
        for other in (make(END, many=1), maker(END, many=1)):
            self.throws("kind", ("close", 0, 1), ("call", 1, 0, ()), others=[other])
            self.throws("kind", ("close", 0, 1), ("call", 1, 0, (0, 0)), others=[other])
        self.throws("kind", ("close", 0, 1), ("call", 0, 0, ()), ("call", 1, 0, ()), others=[maker(END)])

    def test_over(self):
        ops = [("close", 0, 1), ("call", 0, 0, ()), ("try", 5, 1), ("next", 1, 0), ("untry",), ("tell", 1), ("next", 1, 0)]
        machine = self.tells(["over"], *ops, others=[maker(("back", 0))], end=("thrown", "over"))
        # The second time no tick is used up.
        self.assertEqual(machine.left(), 48)

    def test_over_while_it_is_running(self):
        ops = [("close", 0, 1), ("cell", 1), ("call", 2, 0, (1,)), ("store", 1, "g", 2), ("next", 3, 2)]
        within = maker(("load", 1, 0, "g"), ("try", 4, 1), ("next", 1, 1), ("untry",), ("tell", 1), ("yield", 0), END, many=1)
        machine = self.tells(["over"], *ops, others=[within])
        self.assertEqual(machine.left(), 48)
        self.assertEqual(cells(machine)[5][1], 0)

    def test_what_lacks_is_asked_in_order(self):
        # kind ahead of ticks, over ahead of ticks, ticks ahead of deep.
        self.tells([], ("call", 0, 0, ()), ticks=0, end=("thrown", "kind"))
        self.tells([], ("next", 0, 0), ticks=0, end=("thrown", "kind"))
        self.tells([], ("close", 0, 1), ("call", 0, 0, (0,)), ticks=0, end=("thrown", "kind"), others=[make(END)])
        ops = [("close", 0, 1), ("call", 0, 0, ()), ("try", 5, 1), ("next", 1, 0), ("untry",), ("next", 1, 0)]
        self.tells([], *ops, ticks=2, end=("thrown", "over"), others=[maker(END)])

    def deep(self, *ops, many=30, ticks=99):
        """So many calls in calls, the innermost of which does ops with registers 0 to 3."""
        down = make(("unless", 0, 6), ("keep", 1, 1), ("work", 0, "sub", 0, 1), ("outer", 1, 1, 0), ("call", 1, 1, (0,)), ("back", 1),
                    *ops, ("back", 1), many=1, size=4)
        return self.machine(module(("close", 0, 1), ("keep", 1, many - 1), ("call", 2, 0, (1,)), ("tell", 2), END, size=3), down,
                            (0, 1, "make", 1, (END,)), maker(("yield", 0), END, outer=1), ticks=ticks)

    def test_thirty_open_calls_and_one_more(self):
        for op, code in [(("call", 1, 2, ()), 2)]:
            self.assertEqual(self.deep(("close", 2, code), op, many=29).run(), ["nothing"])
            machine = self.deep(("close", 2, code), op)
            self.assertEqual([machine.run(), machine.end(), machine.left()], [[], ("thrown", "deep"), 68])
            machine = self.deep(("close", 2, code), op, ticks=30)
            self.assertEqual([machine.run(), machine.end(), machine.left()], [[], ("ticks",), 0])
        steps = (("close", 2, 3), ("call", 2, 2, ()), ("next", 1, 2))
        self.assertEqual(self.deep(*steps, many=29).run(), ["nothing"])
        machine = self.deep(*steps)
        self.assertEqual([machine.run(), machine.end(), machine.left()], [[], ("thrown", "deep"), 67])
        self.assertEqual(self.deep(*steps, ticks=31).run(), [])
        self.assertEqual(self.deep(*steps[:2]).run(), ["nothing"])

    def test_a_generator_stays_as_it_was_if_deep_is_thrown(self):
        machine = self.deep(("close", 2, 3), ("call", 2, 2, ()), ("try", 12, 1), ("next", 1, 2), ("untry",), ("jump", 13),
                            ("throw", 2))
        self.assertEqual([machine.run(), machine.end()], [[], ("thrown", "generator")])
        stepper = [fields for fields in cells(machine).values() if fields.get(-9) == "stepper"][0]
        frame = cells(machine)[stepper[0][1]]
        self.assertEqual([stepper[1], frame[-5], frame[-2]], [0, 0, None])


class TestTicks(Machines):
    def lacks(self, *ops, others=(), ticks=0):
        """The last of these ops needs a tick: it is not done, and nothing but the end changes."""
        machine = self.machine(module(*ops, END, size=4), *others, ticks=ticks)
        for _ in ops[:-1]:
            machine.step()
        ahead = [cells(machine), machine.done(), machine.told(), machine.end()]
        self.assertEqual([ahead[3], machine.left()], [None, 0])
        self.assertEqual(machine.step(), [])
        self.assertEqual([cells(machine), machine.done(), machine.told(), machine.end(), machine.left()], ahead[:3] + [("ticks",), 0])
        with self.assertRaises(Over):
            machine.step()
        self.assertIs(is_state(((module(*ops, END, size=4), *others), (0,)), machine.heap()), True)

    def test_ticks_that_lack(self):
        self.lacks(("turn",))
        self.lacks(("turn",), ("turn",), ticks=1)
        self.lacks(("close", 0, 1), ("call", 0, 0, ()), others=[make(END)])
        self.lacks(("close", 0, 1), ("call", 0, 0, ()), others=[maker(END)])
        self.lacks(("close", 0, 1), ("call", 0, 0, ()), ("next", 1, 0), others=[maker(END)], ticks=1)

    def test_they_are_thrown_nowhere(self):
        for op in [("turn",), ("call", 0, 0, ())]:
            machine = self.tells([], ("close", 0, 1), ("try", 4, 1), op, ("untry",), ("tell", 1), ticks=0, others=[make(END)], end=("ticks",))
            self.assertEqual(machine.done(), 2)


class TestThrows(Machines):
    def test_tries_in_tries(self):
        ops = [("try", 8, 1), ("try", 5, 2), ("keep", 0, 3), ("throw", 0), ("untry",), ("tell", 2), ("throw", 2), ("untry",), ("tell", 1)]
        self.tells([3, 3], *ops)

    def test_a_try_that_is_through(self):
        self.tells([], ("try", 2, 0), ("untry",), ("throw", 1), end=("thrown", "nothing"))

    def test_all_values_are_thrown(self):
        for ops, told in [([("keep", 0, 5)], 5), ([("keep", 0, "w")], "w"), ([], "nothing"), ([("cell", 0)], "cell"),
                          ([("close", 0, 1)], "function"), ([("close", 0, 1), ("call", 0, 0, ())], "generator")]:
            self.throws(told, *ops, ("throw", 0), others=[maker(END)])

    def test_out_of_frames(self):
        inner = make(("keep", 0, 4), ("throw", 0), outer=1)
        middle = make(("close", 0, 2), ("call", 1, 0, ()), END)
        ops = [("close", 0, 1), ("keep", 1, 9), ("try", 5, 2), ("call", 1, 0, ()), ("untry",), ("tell", 1), ("tell", 2)]
        machine = self.tells([9, 4], *ops, others=[middle, inner])
        self.assertEqual([(fields[-4], fields[-5], fields[-2]) for fields in cells(machine).values() if -4 in fields],
                         [(0, 7, None), (1, 1, None), (2, 1, None)])
        machine = self.tells([], *ops[:2], ops[3], others=[middle, inner], end=("thrown", 4))
        self.assertEqual([(fields[-4], fields[-5], fields[-2]) for fields in cells(machine).values() if -4 in fields],
                         [(0, 2, None), (1, 1, None), (2, 1, None)])
        self.assertEqual([machine.heap().get(0, 0), machine.heap().get(1, 1)], [None, 9])

    def test_the_tries_of_the_op_at_which_a_frame_waits(self):
        inner = make(("throw", 0))
        ops = [("close", 0, 1), ("try", 4, 1), ("call", 2, 0, ()), ("untry",), ("try", 7, 3), ("call", 2, 0, ()), ("untry",), ("tell", 3),
               ("keep", 1, 8), ("tell", 1)]
        self.tells(["nothing", 8], *ops, others=[inner])

    def test_out_of_a_generator(self):
        inner = maker(("yield", 0), ("keep", 1, 6), ("throw", 1))
        ops = [("close", 0, 1), ("call", 0, 0, ()), ("next", 1, 0), ("try", 6, 2), ("next", 1, 0), ("untry",), ("tell", 2), ("next", 1, 0)]
        machine = self.tells([6], *ops, others=[inner], end=("thrown", "over"))
        self.assertEqual([cells(machine)[4], cells(machine)[3][-5], cells(machine)[3][-2]], [{-9: "stepper", 0: None, 1: 0}, 2, None])
        self.assertEqual(machine.left(), 47)

    def test_a_generator_is_not_over_by_what_its_try_catches(self):
        inner = maker(("try", 3, 1), ("throw", 0), ("untry",), ("tell", 1), ("yield", 1), END)
        self.tells(["nothing", "nothing"], ("close", 0, 1), ("call", 0, 0, ()), ("next", 1, 0), ("tell", 1), others=[inner])

    def test_a_yield_within_a_try_leaves_it_open(self):
        inner = maker(("try", 4, 1), ("yield", 0), ("keep", 0, 5), ("throw", 0), ("yield", 1), END)
        self.assertEqual(faults((((module(END)), inner), (0,))), [])
        self.tells([5], ("close", 0, 1), ("call", 0, 0, ()), ("next", 1, 0), ("next", 1, 0), ("tell", 1), others=[inner])

    def test_over_is_thrown_where_the_next_stands(self):
        ops = [("close", 0, 1), ("call", 0, 0, ()), ("keep", 1, 3), ("try", 6, 2), ("next", 1, 0), ("untry",), ("tell", 2), ("tell", 1)]
        for inner in (maker(("back", 0)), maker(END)):
            self.tells(["over", 3], *ops, others=[inner])

    def test_out_of_a_module(self):
        machine = self.machine(module(("cell", 0), ("throw", 0)), module(("tell", 0), END), order=(0, 1))
        self.assertEqual([machine.run(), machine.end(), machine.done()], [[], ("thrown", "cell"), 2])
        self.assertEqual([machine.heap().get(0, 0), machine.heap().get(0, 2), machine.heap().get(1, -5)], [None, None, 1])


class TestModules(Machines):
    def test_one_behind_another(self):
        machine = self.machine(module(("tell", 0), END), module(("cell", 0), ("tell", 0), END, size=1), order=(1, 0))
        machine.step()
        machine.step()
        self.assertEqual([machine.heap().get(0, 0), machine.heap().get(0, 2), machine.step()], [("at", 1), None, []])
        self.assertEqual(cells(machine)[0], {-9: "root", 0: ("at", 3), 1: ("at", 1), 2: ("at", 3)})
        self.assertEqual(cells(machine)[3], {-9: "frame", -5: 0, -4: 0, -3: None, -2: None, -1: None, 0: None, 1: None})
        self.assertEqual(machine.heap().get(1, -5), 2)
        self.assertEqual([machine.run(), machine.told(), machine.end()], [["nothing"], ["cell", "nothing"], ("done",)])
        self.assertEqual(cells(machine)[0], {-9: "root", 0: None, 1: ("at", 1), 2: ("at", 3)})


class TestTheMachineItself(Machines):
    def two(self):
        return self.machine(module(("cell", 0), ("tell", 0), ("turn",), ("keep", 1, 5), ("tell", 1), END))

    def test_over(self):
        machine = self.two()
        machine.run()
        for act in (machine.step, machine.run):
            ahead = [cells(machine), machine.told(), machine.end(), machine.left(), machine.done()]
            with self.assertRaises(Over):
                act()
            self.assertEqual([cells(machine), machine.told(), machine.end(), machine.left(), machine.done()], ahead)

    def test_run_returns_what_was_told_by_it(self):
        machine = self.two()
        self.assertEqual([machine.step(), machine.step(), machine.run(), machine.told()], [[], ["cell"], [5], ["cell", 5]])

    def test_copies_go_on_by_themselves(self):
        machine = self.two()
        machine.step()
        other = machine.copied()
        self.assertIsInstance(other, Machine)
        other.run()
        self.assertEqual([machine.told(), machine.end(), machine.left(), machine.done()], [[], None, 50, 1])
        self.assertEqual([other.told(), other.end(), other.left(), other.done()], [["cell", 5], ("done",), 49, 6])
        machine.run()
        self.assertEqual([cells(machine), machine.told(), machine.end(), machine.left(), machine.done()],
                         [cells(other), other.told(), other.end(), other.left(), other.done()])
        self.assertEqual([other.copied().told(), other.copied().end()], [["cell", 5], ("done",)])
        with self.assertRaises(Over):
            other.copied().step()

    def test_what_is_returned_is_new(self):
        machine = self.two()
        machine.heap().put(1, 0, 77)
        machine.heap().new({})
        machine.told().append(3)
        self.assertEqual([machine.heap().get(1, 0), machine.told(), machine.step()], [None, [], []])
        self.assertEqual(machine.heap().get(1, 0), ("at", 2))
        found = machine.step()
        found.append(9)
        self.assertEqual(machine.told(), ["cell"])


if __name__ == "__main__":
    unittest.main()
