import unittest

from reachkept.programs import Program
from reachkept.reading import read
from tests.made import made
from tests.oracle import Reader
from tests.things import NOTHING, call, cell, integer, name, word, work

ONE = integer(1)
LIMIT = 10 ** 30


def top(*body):
    return Program({"top": ((), (), body)}, "top")


def tells(*ones):
    return tuple(("tell", one) for one in ones)


def let(own, one):
    return ("let", own, one)


def make(*body, givens=()):
    return ("make", tuple(givens), body)


def maker(*body, givens=()):
    return ("maker", tuple(givens), body)


def count(*own):
    """A put that makes a name one more."""
    return ("put", own[0], work("add", name(own[0]), ONE))


class Reading(unittest.TestCase):
    def told(self, expected, *body, ticks=200):
        told, end, _ = read(top(*body), ticks)
        self.assertEqual((told, end), (expected, ("done",)))

    def throws(self, value, *body, ticks=200, told=()):
        found = read(top(*body), ticks)
        self.assertEqual(found[:2], (list(told), ("thrown", value)))
        return ticks - found[2]

    def used(self, *body):
        told, end, left = read(top(*body), 500)
        self.assertEqual(end, ("done",))
        return 500 - left


class TestExpressions(Reading):
    def test_the_example_of_the_document(self):
        counting = maker(("while", name("n"), (("yield", name("n")), ("put", "n", work("sub", name("n"), ONE)))),
                         givens=["n"])
        some = (let("g", call(counting, integer(2))),) + tells(*[("next", name("g"))] * 3)
        program = Program({"top": ((), ("g",), some)}, "top")
        self.assertEqual([read(program, 50), read(program, 3)],
                         [([2, 1], ("thrown", "over"), 43), ([2], ("ticks",), 0)])

    def test_what_is_told(self):
        self.told([5, -5, "w", "nothing", "cell", "function", "function", "generator"],
                  *tells(integer(5), integer(-5), word("w"), NOTHING, cell(), make(), maker(), call(maker())))

    def test_works(self):
        for op, one, other, result in [
                ("add", 2, 3, 5), ("sub", 2, 3, -1), ("mul", -2, 3, -6), ("quo", 7, 2, 3), ("quo", -7, 2, -4),
                ("quo", 7, -2, -4), ("quo", -7, -2, 3), ("rest", 7, 2, 1), ("rest", -7, 2, 1), ("rest", 7, -2, -1),
                ("rest", -7, -2, -1), ("quo", 0, 5, 0), ("rest", 0, -5, 0), ("less", 1, 2, 1), ("less", 2, 2, 0),
                ("less", 3, 2, 0), ("less", -3, -2, 1), ("same", 2, 2, 1), ("same", 2, 3, 0)]:
            self.told([result], *tells(work(op, integer(one), integer(other))))

    def test_great(self):
        edge = integer(LIMIT)
        self.told([LIMIT, -LIMIT, LIMIT, LIMIT, -LIMIT, LIMIT, -LIMIT],
                  *tells(work("add", edge, integer(0)), work("sub", integer(0), edge), work("mul", edge, ONE),
                         work("add", integer(LIMIT - 1), ONE), work("sub", integer(1 - LIMIT), ONE),
                         work("mul", integer(10 ** 15), integer(10 ** 15)),
                         work("mul", integer(-(10 ** 15)), integer(10 ** 15))))
        for one in [work("add", edge, ONE), work("sub", integer(-LIMIT), ONE), work("mul", edge, integer(2)),
                    work("mul", edge, integer(-2)), work("sub", edge, integer(-1)), work("mul", edge, edge)]:
            self.throws("great", *tells(one))
        self.told([-LIMIT, 0, 0, 1], *tells(work("quo", edge, integer(-1)), work("rest", edge, integer(-1)),
                                            work("less", edge, edge), work("same", edge, edge)))

    def test_nought(self):
        for op in ["quo", "rest"]:
            self.throws("nought", *tells(work(op, integer(3), integer(0))))
            self.throws("nought", *tells(work(op, integer(0), integer(0))))
            self.throws("kind", *tells(work(op, word("w"), integer(0))))
            self.throws("kind", *tells(work(op, NOTHING, integer(0))))

    def test_works_of_what_are_no_integers(self):
        for op in ["add", "sub", "mul", "quo", "rest", "less"]:
            for other in [word("w"), NOTHING, cell(), make(), call(maker())]:
                self.throws("kind", *tells(work(op, ONE, other)))
                self.throws("kind", *tells(work(op, other, ONE)))
                self.throws("kind", *tells(work(op, other, other)))

    def test_same(self):
        ones = [("a", integer(0)), ("b", ONE), ("c", NOTHING), ("d", word("w")), ("e", word("v")), ("f", cell()),
                ("g", cell()), ("h", make()), ("i", make()), ("j", call(maker())), ("k", call(maker())), ("l", maker())]
        lets = [let(own, one) for own, one in ones]
        for own, _ in ones:
            self.told([1 if other == own else 0 for other, _ in ones],
                      *lets, *tells(*[work("same", name(own), name(other)) for other, _ in ones]))
        self.told([1, 0, 1], let("a", cell(x=ONE)), let("b", name("a")),
                  *tells(work("same", name("a"), name("b")), work("same", cell(), cell()),
                         work("same", word("w"), word("w"))))

    def test_parts_are_worked_out_from_left_to_right(self):
        def say(number):
            return call(name("say"), integer(number))
        saying = let("say", make(("tell", name("n")), ("back", name("n")), givens=["n"]))
        take = let("take", make(givens=["a", "b"]))
        self.told([1, 2], saying, ("do", work("add", say(1), say(2))))
        self.told([1, 2, 3], saying, ("do", cell(z=say(1), a=say(2), m=say(3))))
        self.told([1, 2], saying, take, ("do", call(name("take"), say(1), say(2))))
        self.throws("kind", saying, ("do", call(say(1), say(2), say(3))), told=[1, 2, 3])
        self.throws("kind", saying, ("do", work("add", word("w"), say(2))), told=[2])
        self.throws("lack", saying, ("store", say(1), "f", say(2)), told=[1, 2])
        self.throws("nought", saying, ("do", cell(a=say(1), b=work("quo", ONE, integer(0)), c=say(3))), told=[1])
        self.throws("kind", saying, ("do", call(say(1), work("add", NOTHING, say(2)), say(3))), told=[1, 2])

    def test_cells_and_fields(self):
        self.told([1, "nothing", "w"], let("c", cell(a=ONE, b=NOTHING)), ("store", name("c"), "d", word("w")),
                  *tells(*[("field", name("c"), own) for own in "abd"]))
        self.told([7, 8], let("c", cell(a=ONE)), let("d", name("c")), ("store", name("d"), "a", integer(7)),
                  *tells(("field", name("c"), "a")), ("store", name("c"), "a", integer(8)),
                  *tells(("field", name("d"), "a")))
        for one in [ONE, integer(0), word("a"), NOTHING, make(), call(maker()), cell(), cell(b=ONE)]:
            self.throws("lack", *tells(("field", one, "a")))

    def test_each_cell_is_a_new_one(self):
        self.told([0, 1], let("f", make(("back", cell(a=ONE)))), let("c", call(name("f"))),
                  let("d", call(name("f"))), ("store", name("c"), "a", integer(5)),
                  *tells(work("same", name("c"), name("d")), ("field", name("d"), "a")))

    def test_is(self):
        ones = [cell(), make(), call(maker()), integer(0), NOTHING, word("w")]
        kinds = ["cell", "function", "generator", "integer", "nothing", "word"]
        for index, one in enumerate(ones):
            self.told([1 if place == index else 0 for place in range(6)],
                      *tells(*[("is", kind, one) for kind in kinds]))
        self.told([1], *tells(("is", "function", maker())))


class TestNames(Reading):
    def test_nothing_ahead_of_the_first_let(self):
        self.told(["nothing", "nothing", 1], *tells(name("a"), name("e")), let("a", ONE), *tells(name("a")),
                  ("try", (), "e", ()))
        self.told(["nothing", 4, 4], ("do", call(make(*tells(name("a")), let("a", integer(4)), *tells(name("a"))))),
                  let("a", integer(4)), *tells(name("a")))
        self.told(["nothing"], ("if", integer(0), (let("a", ONE),), ()), *tells(name("a")))

    def test_new_own_names_for_each_call(self):
        self.told(["nothing", "nothing"], let("f", make(*tells(name("a")), let("a", ONE))),
                  ("do", call(name("f"))), ("do", call(name("f"))))

    def test_names_are_kept_and_not_their_values(self):
        self.told([1, 2, 3], let("a", ONE), let("f", make(("back", name("a")))), *tells(call(name("f"))),
                  let("a", integer(2)), *tells(call(name("f"))), ("put", "a", integer(3)), *tells(call(name("f"))))
        self.told([1, 2, 1, 3], let("box", make(("back", make(count("n"), ("back", name("n")))), givens=["n"])),
                  let("a", call(name("box"), integer(0))), let("b", call(name("box"), integer(0))),
                  *tells(call(name("a")), call(name("a")), call(name("b")), call(name("a"))))

    def test_functions_of_one_call_share_its_names(self):
        pair = make(let("n", integer(5)), ("back", cell(up=make(count("n")), see=make(("back", name("n"))))))
        self.told([5, 6], let("p", call(pair)), *tells(call(("field", name("p"), "see"))),
                  ("do", call(("field", name("p"), "up"))), *tells(call(("field", name("p"), "see"))))

    def test_a_body_of_a_while_has_no_names_of_its_own(self):
        self.told([3, 3], let("n", integer(2)), ("while", name("n"), (
            let("f", make(("back", name("m")))), let("m", name("n")), ("put", "n", work("sub", name("n"), ONE)),
            ("if", name("n"), (let("g", name("f")),), ()))), let("m", integer(3)),
            *tells(call(name("f")), call(name("g"))))

    def test_the_innermost_own_name_counts(self):
        self.told([2, 1], let("a", ONE), ("do", call(make(let("a", integer(2)), *tells(name("a"))))),
                  *tells(name("a")))
        self.told([7, 1], let("a", ONE), ("do", call(make(*tells(name("a")), givens=["a"]), integer(7))),
                  *tells(name("a")))
        self.told([9, 9], let("a", ONE), ("do", call(make(("put", "a", integer(9)), *tells(name("a"))))),
                  *tells(name("a")))
        self.told(["w", 1], let("a", ONE), ("do", call(make(("try", (("throw", word("w")),), "a", ()),
                                                            *tells(name("a"))))), *tells(name("a")))

    def test_names_of_the_maker_of_a_function_and_not_of_its_caller(self):
        self.told([1], let("a", ONE), let("f", make(*tells(name("a")))),
                  ("do", call(make(let("a", integer(2)), ("do", call(name("f")))))))

    def test_a_function_may_name_itself(self):
        body = (("if", name("n"), (("back", work("mul", name("n"), call(name("f"), work("sub", name("n"), ONE)))),), ()),
                ("back", ONE))
        self.told([720], let("f", make(*body, givens=["n"])), *tells(call(name("f"), integer(6))))


class TestCalls(Reading):
    def test_values(self):
        self.told(["nothing", "nothing", 3, "nothing"],
                  *tells(call(make()), call(make(("do", ONE))), call(make(("back", integer(3)), ("tell", ONE))),
                         call(make(("back", NOTHING)))))

    def test_kind(self):
        for one in [ONE, word("w"), NOTHING, cell(), call(maker())]:
            self.assertEqual(self.throws("kind", *tells(call(one))), 1 if one == call(maker()) else 0)
        for givens, others in [([], [ONE]), (["a"], []), (["a"], [ONE, ONE]), (["a", "b"], [ONE])]:
            self.assertEqual(self.throws("kind", *tells(call(make(givens=givens), *others))), 0)
            self.assertEqual(self.throws("kind", *tells(call(maker(givens=givens), *others))), 0)

    def test_ticks(self):
        self.assertEqual(self.used(("do", call(make()))), 1)
        self.assertEqual(self.used(("do", call(maker()))), 1)
        self.assertEqual(self.used(("do", make()), ("do", maker()), ("if", ONE, (), ())), 0)
        self.assertEqual(self.used(let("g", call(maker(("yield", ONE)))), ("do", ("next", name("g")))), 2)
        self.assertEqual(self.used(("while", integer(0), ())), 1)
        self.assertEqual(self.used(let("n", integer(3)), ("while", name("n"), (("put", "n", work("sub", name("n"), ONE)),))), 4)

    def deep(self, most):
        """Bodies that call a function until so many calls are open."""
        body = ("if", work("less", name("n"), integer(most)), (("back", call(name("f"), work("add", name("n"), ONE))),), ())
        return let("f", make(body, ("back", name("n")), givens=["n"]))

    def test_thirty_calls_may_be_open(self):
        self.told([30], self.deep(30), *tells(call(name("f"), ONE)))
        self.assertEqual(self.throws("deep", self.deep(31), *tells(call(name("f"), ONE))), 31)
        self.told([30, 30, 30], self.deep(30), *tells(*[call(name("f"), ONE)] * 3))

    def test_deep_is_thrown_where_the_call_stands(self):
        inner = ("try", (("back", call(name("f"), work("add", name("n"), ONE))),), "e", (*tells(name("e"), name("n")),))
        self.told(["deep", 30, "nothing"], let("f", make(inner, givens=["n"])), *tells(call(name("f"), ONE)))

    def test_a_tick_is_used_up_ahead_of_deep(self):
        self.assertEqual(read(top(self.deep(31), *tells(call(name("f"), ONE))), 30), ([], ("ticks",), 0))
        self.assertEqual(read(top(self.deep(31), *tells(call(name("f"), ONE))), 31), ([], ("thrown", "deep"), 0))

    def at_depth(self, open_calls, *body):
        """Statements that do a body with so many calls open."""
        more = ("if", work("less", name("n"), integer(open_calls)), (("do", call(name("f"), work("add", name("n"), ONE))),),
                body)
        return [let("f", make(more, givens=["n"])), ("do", call(name("f"), ONE))]

    def test_makers_are_called_at_any_depth(self):
        self.told(["generator"], *self.at_depth(30, ("tell", call(maker()))))
        self.throws("kind", *self.at_depth(30, ("tell", call(ONE))))
        self.throws("deep", *self.at_depth(30, ("tell", call(make()))))
        self.told(["nothing"], *self.at_depth(29, ("tell", call(make()))))

    def test_next_is_an_open_call(self):
        some = let("g", call(maker(("yield", ONE), ("yield", integer(2)))))
        self.told([1], some, *self.at_depth(29, ("tell", ("next", name("g")))))
        self.throws("deep", some, *self.at_depth(30, ("tell", ("next", name("g")))))
        inner = let("h", call(maker(("yield", call(make())))))
        self.throws("deep", inner, *self.at_depth(29, ("tell", ("next", name("h")))))
        self.told(["nothing"], inner, *self.at_depth(28, ("tell", ("next", name("h")))))

    def test_thirty_open_calls_by_generators(self):
        step = maker(("if", work("less", name("n"), integer(30)),
                      (("yield", work("add", ONE, ("next", call(name("m"), work("add", name("n"), ONE))))),),
                      (("yield", name("x")),)), givens=["n"])
        self.told([37], let("x", integer(8)), let("m", step), *tells(("next", call(name("m"), ONE))))
        self.throws("deep", let("x", integer(8)), let("m", step), *tells(("next", call(name("m"), integer(0)))))

    def test_a_generator_stays_as_it_was_if_deep_is_thrown(self):
        some = let("g", call(maker(("yield", ONE), ("yield", integer(2)))))
        tried = ("try", (("tell", ("next", name("g"))),), "e", tells(name("e")))
        self.told(["deep", 1, 2], some, *self.at_depth(30, tried), *tells(("next", name("g")), ("next", name("g"))))
        self.told([1, "deep", 2], some, *tells(("next", name("g"))), *self.at_depth(30, tried), *tells(("next", name("g"))))


class TestGenerators(Reading):
    def test_yields(self):
        self.told([1, "nothing", 5], let("g", call(maker(("yield", ONE), ("yield", NOTHING), ("yield", name("n")),
                                                         givens=["n"]), integer(5))),
                  *tells(*[("next", name("g"))] * 3))

    def test_nothing_is_run_ahead_of_the_first_next(self):
        self.told([2, 1, "w"], let("g", call(maker(*tells(ONE), ("yield", word("w"))))), *tells(integer(2)),
                  *tells(("next", name("g"))))

    def test_kind_comes_first(self):
        for one in [ONE, word("w"), NOTHING, cell(), make(), maker()]:
            self.assertEqual(self.throws("kind", *tells(("next", one))), 0)

    def test_over(self):
        for body in [(), (("back", ONE),), (("do", ONE),), (("if", ONE, (("back", ONE), ("yield", ONE)), ()),)]:
            self.assertEqual(self.throws("over", *tells(("next", call(maker(*body))))), 2)
        over = let("g", call(maker())), ("try", (("do", ("next", name("g"))),), "e", ())
        self.assertEqual(self.throws("over", *over, ("do", ("next", name("g")))), 2)

    def test_over_uses_up_no_tick_when_it_was_over_ahead(self):
        over = let("g", call(maker())), ("try", (("do", ("next", name("g"))),), "e", ())
        self.assertEqual(read(top(*over, ("do", ("next", name("g")))), 2), ([], ("thrown", "over"), 0))
        self.assertEqual(read(top(*over), 1), ([], ("ticks",), 0))

    def test_a_generator_that_is_running(self):
        self.assertEqual(self.throws("over", let("g", call(maker(("yield", ("next", name("g")))))),
                                     ("do", ("next", name("g")))), 2)
        tried = ("try", (("yield", ("next", name("g"))),), "e", (("yield", name("e")),))
        self.told(["over", 3], let("g", call(maker(tried, ("yield", integer(3))))), *tells(*[("next", name("g"))] * 2))

    def test_a_generator_that_waits_for_what_it_calls(self):
        tried = ("try", (("back", ("next", name("g"))),), "e", (("back", name("e")),))
        self.told(["over"], let("f", make(tried)), let("g", call(maker(("yield", call(name("f")))))),
                  *tells(("next", name("g"))))
        self.told(["over", 2], let("h", call(maker(tried[:1] + ((("yield", ("next", name("g"))),), "e", (
            ("yield", name("e")),))))), let("g", call(maker(("yield", ("next", name("h"))), ("yield", integer(2))))),
            *tells(("next", name("g")), ("next", name("g"))))

    def test_a_generator_that_waits_for_its_next_is_not_running(self):
        self.told([1, 10, 2], let("g", call(maker(("yield", ONE), ("yield", integer(2))))),
                  let("h", call(maker(*tells(("next", name("g"))), ("yield", integer(10))))),
                  *tells(("next", name("h")), ("next", name("g"))))

    def test_a_yield_within_a_try_leaves_it_open(self):
        body = ("try", (("yield", ONE), ("throw", word("w")), ("yield", integer(2))), "e", (("yield", name("e")),))
        self.told([1, "w", 3], let("g", call(maker(body, ("yield", integer(3))))), *tells(*[("next", name("g"))] * 3))
        self.throws("x", let("g", call(maker(body))), ("do", ("next", name("g"))), ("throw", word("x")))

    def test_a_throw_outside_does_not_go_into_a_generator_that_waits(self):
        body = ("try", (("yield", ONE), ("yield", integer(2))), "e", (("yield", integer(9)),))
        self.told([1, "w", 2], let("g", call(maker(body))), *tells(("next", name("g"))),
                  ("try", (("throw", word("w")),), "e", tells(name("e"))), *tells(("next", name("g"))))

    def test_a_yield_within_whiles_and_ifs(self):
        self.told([0, 1, 2], let("g", call(maker(let("n", integer(0)), ("while", ONE, (
            ("if", ONE, (("yield", name("n")),), ()), count("n")))))), *tells(*[("next", name("g"))] * 3))

    def test_a_body_that_ends_by_a_throw(self):
        tried = ("try", (("do", ("next", name("g"))),), "e", tells(name("e")))
        self.told(["w", "over", "over"], let("g", call(maker(("throw", word("w"))))), tried, tried, tried)
        self.told([1, "kind", "over"], let("g", call(maker(("yield", ONE), ("do", work("add", NOTHING, ONE))))),
                  *tells(("next", name("g"))), tried, tried)

    def test_a_throw_through_generators_ends_them_all(self):
        tried = [("try", (("do", ("next", name(own))),), "e", tells(name("e"))) for own in "ghk"]
        self.told(["w", "over", "over", "over"], let("g", call(maker(("throw", word("w"))))),
                  let("h", call(maker(("yield", call(make(("do", ("next", name("g"))))))))),
                  let("k", call(maker(("yield", ("next", name("h")))))), tried[2], *tried)

    def test_generators_of_one_maker_go_on_by_themselves(self):
        self.told([1, 1, 2, 2], let("m", maker(("yield", ONE), ("yield", integer(2)))), let("g", call(name("m"))),
                  let("h", call(name("m"))), *tells(*[("next", name(own)) for own in "ghgh"]))

    def test_a_back_in_a_try_of_a_generator(self):
        self.throws("over", let("g", call(maker(("try", (("back", ONE),), "e", (("yield", integer(7)),))))),
                    ("do", ("next", name("g"))))

    def test_a_generator_may_make_the_calls_of_others(self):
        self.told([3, 4], let("f", make(("back", ("next", name("g"))), givens=["g"])),
                  let("g", call(maker(("yield", integer(3)), ("yield", integer(4))))),
                  *tells(call(name("f"), name("g")), call(name("f"), name("g"))))


class TestStatements(Reading):
    def test_so(self):
        for one, so in [(ONE, 1), (integer(-1), 1), (integer(0), 2), (NOTHING, 2), (word("w"), 1), (cell(), 1),
                        (make(), 1), (call(maker()), 1)]:
            self.told([so], ("if", one, tells(ONE), tells(integer(2))))

    def test_whiles(self):
        self.told([3, 2, 1], let("n", integer(3)),
                  ("while", name("n"), tells(name("n")) + (("put", "n", work("sub", name("n"), ONE)),)))
        self.told([], ("while", NOTHING, tells(ONE)))
        self.told(["w"], let("c", word("w")), ("while", name("c"), tells(name("c")) + (("put", "c", NOTHING),)))

    def test_a_tick_is_used_up_ahead_of_the_value(self):
        saying = let("f", make(*tells(ONE)))
        self.assertEqual(read(top(saying, ("while", call(name("f")), ())), 1), ([], ("ticks",), 0))
        self.assertEqual(read(top(saying, ("while", call(name("f")), ())), 2), ([1], ("done",), 0))
        self.assertEqual(read(top(("while", work("add", NOTHING, ONE), ())), 0), ([], ("ticks",), 0))
        self.assertEqual(read(top(("while", work("add", NOTHING, ONE), ())), 1), ([], ("thrown", "kind"), 0))

    def test_store(self):
        for one in [ONE, word("w"), NOTHING, make(), call(maker())]:
            self.throws("lack", ("store", one, "f", ONE))
        self.throws("kind", ("store", ONE, "f", work("add", NOTHING, ONE)))
        self.told([5], let("c", cell()), ("store", name("c"), "c", name("c")), ("store", name("c"), "n", integer(5)),
                  *tells(("field", ("field", ("field", name("c"), "c"), "c"), "n")))

    def test_throws(self):
        for one, told in [(ONE, 1), (word("w"), "w"), (NOTHING, "nothing"), (cell(), "cell"), (make(), "function"),
                          (call(maker()), "generator")]:
            self.throws(told, ("throw", one), *tells(ONE))
            self.told([told], ("try", (("throw", one), *tells(ONE)), "e", tells(name("e"))))
        self.throws("kind", ("throw", work("add", NOTHING, ONE)))

    def test_the_very_value_is_caught(self):
        self.told([1], let("c", cell()), ("try", (("throw", name("c")),), "e", tells(work("same", name("c"), name("e")))))

    def test_tries(self):
        self.told([1, 3], ("try", tells(ONE), "e", tells(integer(2))), *tells(integer(3)))
        self.told([1, "w", 3], ("try", tells(ONE) + (("throw", word("w")),) + tells(integer(7)), "e", tells(name("e"))),
                  *tells(integer(3)))
        self.throws("v", ("try", (("throw", word("w")),), "e", (("throw", word("v")),)), *tells(ONE))
        self.told(["v"], ("try", (("try", (("throw", word("w")),), "e", (("throw", word("v")),)),), "d",
                          tells(name("d"))))
        self.told(["w", "v"], ("try", (("try", (("throw", word("w")),), "e", tells(name("e"))),
                                       ("throw", word("v"))), "e", tells(name("e"))))

    def test_a_try_that_is_through_catches_nothing(self):
        self.throws("w", ("try", (), "e", tells(ONE)), ("throw", word("w")))
        self.throws("w", ("while", ONE, (("try", (("do", ONE),), "e", tells(ONE)), ("throw", word("w")))))
        self.throws("kind", ("try", (("do", ONE),), "e", tells(ONE)), ("do", call(ONE)))

    def test_throws_out_of_calls(self):
        self.told(["w", 2], let("f", make(("throw", word("w")), *tells(ONE))), let("h", make(("do", call(name("f"))), *tells(ONE))),
                  ("try", (("do", work("add", ONE, call(name("h")))), *tells(ONE)), "e", tells(name("e"))), *tells(integer(2)))

    def test_what_was_worked_out_ahead_of_a_throw_is_put_away(self):
        tried = ("try", (("tell", call(name("f"), ONE, integer(2), work("add", NOTHING, ONE))),), "e", ())
        self.told([7], let("f", make(givens=["a", "b", "c"])), tried, tried, ("tell", integer(7)))
        self.told([3], let("f", make(("back", work("add", name("a"), name("b"))), givens=["a", "b"])), tried[:1]
                  + ((("do", call(name("f"), integer(8), work("quo", ONE, integer(0)))),), "e", ()),
                  *tells(call(name("f"), ONE, integer(2))))

    def test_names_of_tries_stay(self):
        self.told(["nothing", "w", "w"], *tells(name("e")), ("try", (("throw", word("w")),), "e", ()), *tells(name("e")),
                  ("try", (), "e", ()), *tells(name("e")))

    def test_a_back_out_of_whiles_and_tries(self):
        body = ("while", ONE, (("try", (("while", ONE, (("try", (), "e", ()), ("if", ONE, (("back", integer(4)),), ()))),),
                                "e", tells(ONE)),))
        self.told([4, 4], let("f", make(body, *tells(ONE))), *tells(call(name("f")), call(name("f"))))
        self.told([5], let("f", make(("try", (("throw", ONE),), "e", (("while", ONE, (("back", integer(5)),)),)))),
                  *tells(call(name("f"))))

    def test_a_try_that_was_left_by_a_back_catches_nothing(self):
        self.throws("w", let("f", make(("try", (("back", ONE),), "e", tells(ONE)))), ("do", call(name("f"))),
                    ("throw", word("w")))

    def test_ticks_that_lack_are_thrown_nowhere(self):
        self.assertEqual(read(top(("try", (("do", call(make())),), "e", tells(ONE)), *tells(ONE)), 0), ([], ("ticks",), 0))
        self.assertEqual(read(top(("try", (("while", ONE, ()),), "e", tells(ONE)), *tells(ONE)), 9), ([], ("ticks",), 0))


class TestModules(unittest.TestCase):
    def test_order_and_values(self):
        lib = ((), ("n", "up"), (let("n", integer(4)), *tells(word("lib")), let("up", make(count("n")))))
        mid = ((("lib", "n", "m"),), ("f",), (*tells(word("mid"), name("m")), let("f", make(("back", name("m"))))))
        main = ((("mid", "f", "f"), ("lib", "up", "up"), ("lib", "n", "n")), (),
                (*tells(word("top"), name("n"), call(name("f"))), ("do", call(name("up"))),
                 *tells(name("n"), call(name("f")))))
        other = ((("lib", "n", "n"),), (), (*tells(word("other")), ("throw", ONE)))
        program = Program({"lib": lib, "mid": mid, "top": main, "other": other}, "top")
        self.assertEqual(read(program, 9), (["lib", "mid", 4, "top", 4, 4, 5, 5], ("done",), 6))

    def test_each_is_run_once_in_the_order_of_imports(self):
        def saying(own, *homes):
            return (tuple((home, "a", "xyz"[index]) for index, home in enumerate(homes)), ("a",),
                    (*tells(word(own)), let("a", ONE)))
        modules = {"top": saying("top", "c", "b"), "c": saying("c", "lib"), "b": saying("b", "d", "lib", "c"),
                   "lib": saying("lib"), "d": saying("d")}
        self.assertEqual(read(Program(modules, "top"), 0), (["lib", "c", "d", "b", "top"], ("done",), 0))
        self.assertEqual(read(Program(modules, "c"), 0), (["lib", "c"], ("done",), 0))

    def test_imports_that_have_no_value_yet(self):
        lib = ((), ("a", "e", "set"), (("if", integer(0), (let("a", ONE),), ()), ("try", (), "e", ()),
                                       let("set", make(("put", "a", integer(6)), ("put", "e", name("a"))))))
        main = ((("lib", "a", "x"), ("lib", "e", "y"), ("lib", "set", "set")), (),
                (*tells(name("x"), name("y")), ("do", call(name("set"))), *tells(name("x"), name("y"))))
        self.assertEqual(read(Program({"lib": lib, "top": main}, "top"), 1),
                         (["nothing", "nothing", 6, 6], ("done",), 0))

    def test_imports_within_makes(self):
        lib = ((), ("a",), (let("a", integer(3)),))
        main = ((("lib", "a", "x"),), (), tells(call(make(("back", call(make(("back", name("x"))))))),
                                               call(make(let("x", ONE), ("back", name("x"))))))
        self.assertEqual(read(Program({"lib": lib, "top": main}, "top"), 3), ([3, 1], ("done",), 0))

    def test_functions_of_other_modules_use_their_own_names(self):
        lib = ((), ("f",), (let("n", integer(3)), let("f", make(count("n"), ("back", name("n"))))))
        main = ((("lib", "f", "f"),), (), (let("n", integer(50)), *tells(call(name("f")), call(name("f")), name("n"))))
        self.assertEqual(read(Program({"lib": lib, "top": main}, "top"), 9), ([4, 5, 50], ("done",), 7))

    def test_a_throw_out_of_a_module_ends_the_run(self):
        lib = ((), ("a",), (*tells(ONE), let("a", cell()), ("throw", name("a"))))
        main = ((("lib", "a", "x"),), (), (("try", tells(integer(2)), "e", ()),))
        self.assertEqual(read(Program({"lib": lib, "top": main}, "top"), 5), ([1], ("thrown", "cell"), 5))

    def test_the_body_of_a_module_is_no_open_call(self):
        body = ("if", work("less", name("n"), integer(30)), (("back", call(name("f"), work("add", name("n"), ONE))),), ())
        lib = ((), ("f",), (let("f", make(body, ("back", name("n")), givens=["n"])), *tells(call(name("f"), ONE))))
        main = ((("lib", "f", "f"),), (), tells(call(name("f"), ONE), call(name("f"), integer(0))))
        self.assertEqual(read(Program({"lib": lib, "top": main}, "top"), 99), ([30, 30], ("thrown", "deep"), 8))

    def test_an_empty_program(self):
        self.assertEqual(read(top(), 0), ([], ("done",), 0))
        self.assertEqual(read(top(), 7), ([], ("done",), 7))


class TestTicks(unittest.TestCase):
    def test_just_as_many_as_are_used_and_one_fewer(self):
        program = top(let("n", integer(4)), ("while", name("n"), (*tells(name("n")), ("put", "n", work("sub", name("n"), ONE)))),
                      *tells(word("end")))
        told = [4, 3, 2, 1, "end"]
        self.assertEqual(read(program, 5), (told, ("done",), 0))
        self.assertEqual(read(program, 6), (told, ("done",), 1))
        self.assertEqual(read(program, 4), (told[:4], ("ticks",), 0))
        self.assertEqual(read(program, 0), ([], ("ticks",), 0))

    def test_what_is_told_stays_new(self):
        program = top(*tells(ONE))
        read(program, 0)[0].append(5)
        self.assertEqual(read(program, 0), ([1], ("done",), 0))

    def test_what_goes_beyond_the_bounds(self):
        one = ONE
        for _ in range(300):
            one = work("add", one, ONE)
        inner = tells(one)
        for _ in range(200):
            inner = (("if", ONE, inner, ()),)
        self.assertEqual(read(top(*inner), 0), ([301], ("done",), 0))
        self.assertEqual(read(top(("while", ONE, ())), 20000), ([], ("ticks",), 0))


class TestProgramsByChance(unittest.TestCase):
    def test_as_the_other_reader_tells(self):
        ends, words = {}, {}
        for seed in range(300):
            modules, main, program = made(seed)
            for ticks in [0, 2, 30, 300]:
                other = Reader(modules, main, ticks)
                self.assertEqual(read(program, ticks), (other.told, other.end, other.left), (seed, ticks))
            used = ticks - other.left
            ends[other.end[0]] = ends.get(other.end[0], 0) + 1
            for value in other.thrown:
                words[value] = words.get(value, 0) + 1
            self.assertEqual(read(program, used), (other.told, other.end, 0))
            if used:
                other = Reader(modules, main, used - 1)
                self.assertEqual(other.end, ("ticks",))
                self.assertEqual(read(program, used - 1), (other.told, ("ticks",), 0))
        self.assertGreater(min(ends[end] for end in ["done", "thrown", "ticks"]), 20)
        for value in ["kind", "lack", "over", "deep", "nought"]:
            self.assertGreater(words.get(value, 0), 0, value)


if __name__ == "__main__":
    unittest.main()
