import random
import unittest

from reachkept.compiling import compiled
from reachkept.errors import Gone, NoField, Nothing, TooFar, Wrong
from reachkept.journals import Journal
from reachkept.machines import Machine
from tests.loops import looping
from tests.made import made
from tests.test_recording import LOOP, alone
from tests.things import STRANGE

TELLS = alone(1, ("tell", 0), ("keep", 0, 1), ("tell", 0), ("turn",), ("tell", 0), ("end",))


def state(machine):
    return (machine.heap(), machine.told(), machine.end(), machine.left(), machine.done())


def ran(codes, ticks, many):
    """A machine that has done so many ops."""
    machine = Machine(codes, ticks)
    while machine.done() < many:
        machine.step()
    return machine


def through(codes, ticks):
    machine = Machine(codes, ticks)
    machine.run()
    return machine


class TestWhatIsWrong(unittest.TestCase):
    def test_codes_and_ticks(self):
        for thing in STRANGE + [alone(1, ("tell", 0)), alone(0, ("tell", 0), ("end",)), list(LOOP)]:
            with self.assertRaises(Wrong) as caught:
                Journal(thing, 4)
            self.assertEqual(caught.exception.place, 0)
            with self.assertRaises(Wrong) as caught:
                Journal(thing, None)
            self.assertEqual(caught.exception.place, 0)
        for thing in STRANGE:
            if type(thing) is not int or thing < 0:
                with self.assertRaises(Wrong) as caught:
                    Journal(LOOP, thing)
                self.assertEqual(caught.exception.place, 1)


class TestOnAndTo(unittest.TestCase):
    def test_on(self):
        journal = Journal(LOOP, 9)
        self.assertEqual((len(journal), state(journal.machine())), (0, state(Machine(LOOP, 9))))
        self.assertEqual([journal.on(0), journal.on(3), journal.on(2), len(journal)], [0, 3, 2, 5])
        self.assertEqual(state(journal.machine()), state(ran(LOOP, 9, 5)))

    def test_on_across_the_end(self):
        journal = Journal(LOOP, 9)
        many = through(LOOP, 9).done()
        self.assertEqual([journal.on(many - 1), journal.machine().end()], [many - 1, None])
        self.assertEqual([journal.on(50), journal.on(50), journal.on(0), len(journal)], [1, 0, 0, many])
        self.assertEqual(state(journal.machine()), state(through(LOOP, 9)))

    def test_on_across_a_lacking_tick(self):
        journal = Journal(TELLS, 0)
        self.assertEqual([journal.on(3), journal.machine().end()], [3, None])
        self.assertEqual([journal.on(1), journal.machine().end(), len(journal)], [0, ("ticks",), 3])
        self.assertEqual([journal.on(5), journal.machine().left()], [0, 0])
        other = Journal(TELLS, 0)
        self.assertEqual([other.on(4), other.machine().end()], [3, ("ticks",)])

    def test_to(self):
        journal = Journal(LOOP, 9)
        self.assertEqual([journal.to(0, 1), journal.to(0, 1), journal.to(0, 4), journal.to(0, 2)], [1, 5, 3, 3])
        self.assertEqual(state(journal.machine()), state(ran(LOOP, 9, 12)))

    def test_to_does_one_op_at_least(self):
        codes = alone(1, ("turn",), ("jump", 0))
        journal = Journal(codes, 2)
        self.assertEqual([journal.to(0, 0), journal.to(0, 0), journal.to(0, 0)], [2, 2, 0])
        self.assertEqual(journal.machine().end(), ("ticks",))
        codes = alone(1, ("jump", 1), ("turn",), ("jump", 1))
        self.assertEqual([Journal(codes, 2).to(0, 0)], [5])

    def test_to_the_end_and_across_a_lacking_tick(self):
        journal = Journal(LOOP, 9)
        self.assertEqual([journal.to(0, 0), journal.machine().end(), journal.to(0, 0)], [20, ("done",), 0])
        self.assertEqual([Journal(LOOP, 9).to(5, 5), Journal(LOOP, 9).to(0, 99)], [20, 20])
        journal = Journal(TELLS, 0)
        self.assertEqual([journal.to(0, 3), journal.machine().end()], [3, None])
        self.assertEqual([journal.to(0, 4), journal.machine().end(), journal.to(0, 4)], [0, ("ticks",), 0])

    def test_to_an_op_of_a_code_that_is_called(self):
        make = (0, 1, "make", 0, (("keep", 0, 3), ("back", 0)))
        codes = (((0, 1, "module", None, (("close", 0, 1), ("call", 0, 0, ()), ("end",))), make), (0,))
        journal = Journal(codes, 5)
        self.assertEqual([journal.to(1, 1), journal.to(0, 1), len(journal)], [3, 2, 5])
        journal = Journal(codes, 5)
        self.assertEqual([journal.to(1, 0), journal.to(0, 2)], [2, 2])

    def test_copies_go_on_by_themselves(self):
        journal = Journal(LOOP, 9)
        journal.on(4)
        machine = journal.machine()
        machine.run()
        self.assertEqual(state(journal.machine()), state(ran(LOOP, 9, 4)))
        machine = journal.at_op(2)
        machine.run()
        self.assertEqual(state(machine), state(through(LOOP, 9)))
        self.assertEqual((len(journal), state(journal.machine())), (4, state(ran(LOOP, 9, 4))))
        machine = journal.machine()
        journal.on(5)
        self.assertEqual(state(machine), state(ran(LOOP, 9, 4)))


class TestBackAndAgain(unittest.TestCase):
    def test_backs_of_none_some_and_all(self):
        journal = Journal(LOOP, 9)
        journal.on(7)
        self.assertEqual([journal.back(0), len(journal), journal.back(3), len(journal)], [None, 7, None, 4])
        self.assertEqual(state(journal.machine()), state(ran(LOOP, 9, 4)))
        journal.back(4)
        self.assertEqual((len(journal), state(journal.machine())), (0, state(Machine(LOOP, 9))))
        self.assertIsNone(journal.back(0))

    def test_too_many(self):
        journal = Journal(LOOP, 9)
        for many in (1, 5):
            with self.assertRaises(TooFar) as caught:
                journal.back(many)
            self.assertEqual(caught.exception.number, many)
        journal.on(3)
        journal.back(1)
        with self.assertRaises(TooFar):
            journal.back(3)
        self.assertEqual((len(journal), state(journal.machine())), (2, state(ran(LOOP, 9, 2))))
        self.assertIsNone(journal.again())
        self.assertEqual(len(journal), 3)

    def test_agains_one_behind_another(self):
        journal = Journal(LOOP, 9)
        with self.assertRaises(Nothing):
            journal.again()
        journal.on(10)
        for many in (2, 3, 1):
            journal.back(many)
        found = []
        for _ in range(3):
            self.assertIsNone(journal.again())
            found.append(len(journal))
            self.assertEqual(state(journal.machine()), state(ran(LOOP, 9, found[-1])))
        self.assertEqual(found, [5, 8, 10])
        with self.assertRaises(Nothing):
            journal.again()
        journal.back(4)
        journal.again()
        self.assertEqual(len(journal), 10)

    def test_a_back_of_nought_counts_for_nothing(self):
        journal = Journal(LOOP, 9)
        journal.on(4)
        journal.back(0)
        with self.assertRaises(Nothing):
            journal.again()
        journal.back(2)
        journal.back(0)
        journal.again()
        self.assertEqual(len(journal), 4)

    def test_on_and_to_put_away_what_could_be_done_again(self):
        for call in (lambda one: one.on(0), lambda one: one.on(1), lambda one: one.to(0, 1)):
            journal = Journal(LOOP, 9)
            journal.on(6)
            journal.back(2)
            journal.back(1)
            call(journal)
            with self.assertRaises(Nothing):
                journal.again()
        journal = Journal(LOOP, 9)
        journal.on(50)
        journal.back(3)
        journal.again()
        journal.back(2)
        journal.on(2)
        self.assertEqual(journal.machine().end(), ("done",))
        journal.back(1)
        self.assertEqual((journal.on(0), len(journal)), (0, 19))
        with self.assertRaises(Nothing):
            journal.again()

    def test_on_that_does_nothing_puts_away_too(self):
        journal = Journal(LOOP, 9)
        journal.on(50)
        journal.back(2)
        journal.again()
        journal.back(1)
        journal.again()
        journal.back(2)
        journal.back(1)
        journal.again()
        journal.again()
        self.assertEqual(journal.on(3), 0)
        with self.assertRaises(Nothing):
            journal.again()

    def test_ends_come_and_go(self):
        for ticks, end in ((9, ("done",)), (0, ("ticks",))):
            journal = Journal(TELLS, ticks)
            many = journal.on(50)
            ahead = state(journal.machine())
            self.assertEqual(ahead[2], end)
            journal.back(0)
            self.assertEqual(state(journal.machine()), ahead)
            journal.back(1)
            self.assertEqual(journal.machine().end(), None)
            self.assertEqual(state(journal.machine()), state(ran(TELLS, ticks, many - 1)))
            journal.back(1)
            journal.again()
            self.assertEqual((len(journal), journal.machine().end()), (many - 1, None))
            journal.again()
            self.assertEqual(state(journal.machine()), ahead)
        journal = Journal(TELLS, 0)
        journal.on(3)
        journal.back(1)
        journal.again()
        self.assertEqual((journal.machine().end(), len(journal)), (None, 3))
        codes = alone(1, ("throw", 0))
        journal = Journal(codes, 0)
        journal.on(1)
        journal.back(1)
        self.assertEqual(journal.machine().end(), None)
        journal.again()
        self.assertEqual(journal.machine().end(), ("thrown", "nothing"))

    def test_numbers_of_new_cells_are_given_again(self):
        codes = alone(2, ("cell", 0), ("cell", 1), ("store", 0, "f", 1), ("cell", 1), ("end",))
        journal = Journal(codes, 0)
        journal.on(50)
        ahead = state(journal.machine())
        journal.back(3)
        self.assertEqual(journal.machine().heap().numbers(), [0, 1, 2, 3])
        journal.on(50)
        self.assertEqual(state(journal.machine()), ahead)
        journal.back(5)
        machine = journal.machine()
        machine.run()
        self.assertEqual(state(machine), ahead)

    def test_by_chance(self):
        for seed in range(60):
            chance = random.Random(seed)
            codes = compiled(made(seed)[2] if seed % 2 else looping(seed))
            ticks = chance.choice([0, 2, 10])
            journal = Journal(codes, ticks)
            backs = []
            for _ in range(25):
                what = chance.randrange(5)
                ahead = (len(journal), state(journal.machine()))
                if what < 2:
                    many = chance.choice([0, 1, 3, 12])
                    done = journal.on(many)
                    self.assertTrue(done == many or done < many and journal.machine().end() is not None)
                    backs = []
                elif what == 2 and len(journal):
                    many = chance.randint(0, len(journal))
                    journal.back(many)
                    backs += [ahead] if many else []
                    self.assertEqual(len(journal), ahead[0] - many)
                elif what == 3 and backs:
                    journal.again()
                    self.assertEqual((len(journal), state(journal.machine())), backs.pop())
                elif what == 4:
                    with self.assertRaises(TooFar):
                        journal.back(len(journal) + 1)
                    self.assertEqual((len(journal), state(journal.machine())), ahead)
                if not backs:
                    with self.assertRaises(Nothing):
                        journal.again()
                machine = journal.machine()
                self.assertEqual(machine.done(), len(journal))
                if machine.end() is None:
                    self.assertEqual(state(machine), state(ran(codes, ticks, len(journal))))
                else:
                    self.assertEqual(state(machine), state(through(codes, ticks)))


class TestQuestions(unittest.TestCase):
    CODES = alone(3, ("keep", 2, 5), ("cell", 0), ("keep", 1, 5), ("store", 0, "f", 1), ("store", 0, "f", 2), ("keep", 1, 6),
                  ("store", 0, "g", 1), ("store", 0, "f", 1), ("cell", 1), ("end",))

    def test_last_put(self):
        journal = Journal(self.CODES, 0)
        found = []
        for _ in range(10):
            journal.on(1)
            heap = journal.machine().heap()
            found.append(journal.last_put(2, "f") if heap.numbers()[-1] >= 2 and heap.has(2, "f") else "-")
        # The op 4 gives the field the same value once more.
        self.assertEqual(found, ["-", "-", "-", 3, 3, 3, 3, 7, 7, 7])
        self.assertEqual([journal.last_put(2, "g"), journal.last_put(1, 0), journal.last_put(1, 1), journal.last_put(1, 2)],
                         [6, 1, 8, 0])

    def test_last_put_of_cells_of_the_machine(self):
        journal = Journal(LOOP, 9)
        self.assertEqual([journal.last_put(0, 0), journal.last_put(0, 1), journal.last_put(1, -5), journal.last_put(1, 0)],
                         [None] * 4)
        journal.on(7)
        self.assertEqual([journal.last_put(0, 0), journal.last_put(0, -9), journal.last_put(1, -5), journal.last_put(1, 0),
                          journal.last_put(1, 1), journal.last_put(1, -4)], [None, None, 6, 4, 3, None])
        journal.on(50)
        self.assertEqual([journal.last_put(0, 0), journal.last_put(0, 1)], [19, None])

    def test_last_put_of_new_cells(self):
        make = (1, 2, "make", 0, (("keep", 1, 3), ("back", 1)))
        codes = (((0, 1, "module", None, (("close", 0, 1), ("call", 0, 0, (0,)), ("end",))), make), (0,))
        journal = Journal(codes, 5)
        journal.on(2)
        self.assertEqual([journal.last_put(2, field) for field in (-9, 0, 1)], [0, 0, 0])
        self.assertEqual([journal.last_put(3, field) for field in (-9, -5, -4, -3, -2, -1, 0, 1)], [1] * 8)
        self.assertEqual(journal.last_put(0, 0), 1)
        journal.on(2)
        self.assertEqual([journal.last_put(3, field) for field in (-9, -5, -2, 0, 1)], [1, 2, 3, 1, 2])
        self.assertEqual(journal.last_put(1, 0), 3)

    def test_last_put_behind_a_back(self):
        journal = Journal(self.CODES, 0)
        journal.on(8)
        journal.back(1)
        self.assertEqual(journal.last_put(2, "f"), 3)
        journal.again()
        self.assertEqual(journal.last_put(2, "f"), 7)

    def test_last_put_of_what_is_not_there(self):
        journal = Journal(self.CODES, 0)
        for number in (2, 9, -1):
            with self.assertRaises(Gone) as caught:
                journal.last_put(number, "f")
            self.assertEqual(caught.exception.number, number)
        for number, field in ((0, "f"), (1, 3), (1, -10), (0, 2)):
            with self.assertRaises(NoField) as caught:
                journal.last_put(number, field)
            self.assertEqual((caught.exception.number, caught.exception.field), (number, field))

    def test_last_put_by_chance(self):
        for seed in range(20):
            codes = compiled(looping(seed))
            journal, machine = Journal(codes, 8), Machine(codes, 8)
            puts = {}
            while machine.end() is None and machine.done() < 120:
                elder, op = machine.heap(), machine.done()
                machine.step()
                heap = machine.heap()
                for number in heap.numbers():
                    for field, value in heap.fields(number).items():
                        if number not in elder.numbers() or not elder.has(number, field) or elder.get(number, field) != value:
                            puts[number, field] = op
            journal.on(machine.done())
            for number in heap.numbers():
                for field in heap.fields(number):
                    self.assertEqual(journal.last_put(number, field), puts.get((number, field)), (seed, number, field))

    def test_tellers(self):
        journal = Journal(TELLS, 5)
        self.assertEqual(journal.tellers(), [])
        journal.on(50)
        self.assertEqual(journal.tellers(), [(0, "nothing"), (2, 1), (4, 1)])
        journal.tellers().clear()
        journal.back(2)
        self.assertEqual(journal.tellers(), [(0, "nothing"), (2, 1)])
        journal.again()
        self.assertEqual(journal.tellers(), [(0, "nothing"), (2, 1), (4, 1)])
        for seed in range(20):
            codes = compiled(looping(seed))
            journal = Journal(codes, 10)
            journal.on(1000)
            self.assertEqual([told for _, told in journal.tellers()], through(codes, 10).told())
            for op, told in journal.tellers():
                machine = journal.at_op(op)
                self.assertEqual(machine.step(), [told])

    def test_at_op(self):
        journal = Journal(LOOP, 9)
        journal.on(12)
        for number in range(13):
            self.assertEqual(state(journal.at_op(number)), state(ran(LOOP, 9, number)))
        for number in (13, 14, 100):
            with self.assertRaises(TooFar) as caught:
                journal.at_op(number)
            self.assertEqual(caught.exception.number, number)
        self.assertEqual((len(journal), state(journal.machine())), (12, state(ran(LOOP, 9, 12))))
        self.assertIs(type(journal.at_op(3)), Machine)

    def test_at_op_behind_the_end(self):
        for ticks in (9, 1):
            journal = Journal(LOOP, ticks)
            many = journal.on(50)
            self.assertEqual(state(journal.at_op(many)), state(through(LOOP, ticks)))
            self.assertEqual(state(journal.at_op(many - 1)), state(ran(LOOP, ticks, many - 1)))
            self.assertEqual(state(journal.at_op(0)), state(Machine(LOOP, ticks)))
        self.assertEqual(state(Journal(LOOP, 9).at_op(0)), state(Machine(LOOP, 9)))

    def test_machines_of_it_go_on_as_others(self):
        for seed in range(15):
            codes = compiled(looping(seed))
            journal = Journal(codes, 10)
            many = journal.on(1000)
            for number in range(0, many, 5):
                machine = journal.at_op(number)
                if machine.end() is None:
                    machine.run()
                self.assertEqual(state(machine), state(through(codes, 10)))


if __name__ == "__main__":
    unittest.main()
