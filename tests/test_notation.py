import unittest

from reachkept.codes import OPS, is_codes
from reachkept.compiling import compiled
from reachkept.notation import (show_body, show_codes, show_expression, show_plan, show_program, show_step, show_trace)
from reachkept.programs import Program
from tests.loops import looping
from tests.made import made
from tests.things import NOTHING, call, cell, integer, name, work, word

X, Y = name("x"), name("y")

EXPRESSIONS = [
    (integer(0), "0"), (integer(-3), "-3"), (integer(10 ** 39), "1" + "0" * 39), (integer(-(10 ** 9)), "-1000000000"),
    (word("yes"), "word yes"), (NOTHING, "nothing"), (X, "x"), (name("name"), "name"), (name("work"), "work"),
    (name("abcdefgh"), "abcdefgh"),
    (work("add", X, integer(1)), "add x 1"), (work("same", NOTHING, word("w")), "same nothing word w"),
    (work("sub", work("mul", X, Y), work("quo", X, Y)), "sub mul x y quo x y"), (work("rest", X, Y), "rest x y"),
    (work("less", X, Y), "less x y"),
    (("cell", ()), "cell ( )"), (cell(a=integer(-3)), "cell ( a -3 )"),
    (("cell", (("b", X), ("a", ("cell", ())))), "cell ( b x a cell ( ) )"),
    (("field", X, "f"), "field x f"), (("field", ("field", X, "f"), "g"), "field field x f g"),
    (("make", (), ()), "make ( ) { }"), (("maker", ("x", "a"), (("yield", X),)), "maker ( x a ) { yield x }"),
    (("make", ("x",), (("back", ("make", (), ())), ("tell", X))), "make ( x ) { back make ( ) { } tell x }"),
    (call(X), "call x ( )"), (call(X, Y, integer(2)), "call x ( y 2 )"), (call(call(X), call(Y)), "call call x ( ) ( call y ( ) )"),
    (("next", ("next", X)), "next next x"),
    (("is", "cell", X), "is cell x"), (("is", "word", word("w")), "is word word w"), (("is", "nothing", NOTHING), "is nothing nothing"),
    (("is", "integer", X), "is integer x"), (("is", "function", X), "is function x"), (("is", "generator", X), "is generator x"),
]

BODIES = [
    ((), "{ }"), ((("let", "x", integer(1)),), "{ let x 1 }"), ((("put", "x", Y),), "{ put x y }"),
    ((("store", X, "f", Y),), "{ store x f y }"), ((("tell", X), ("do", Y)), "{ tell x do y }"),
    ((("if", X, (), ()),), "{ if x { } { } }"), ((("if", X, (("tell", X),), (("do", X),)),), "{ if x { tell x } { do x } }"),
    ((("while", X, (("tell", X),)),), "{ while x { tell x } }"), ((("back", NOTHING),), "{ back nothing }"),
    ((("throw", word("w")),), "{ throw word w }"), ((("try", (("tell", X),), "e", (("tell", name("e")),)),), "{ try { tell x } e { tell e } }"),
    ((("try", (), "e", ()),), "{ try { } e { } }"), ((("yield", X),), "{ yield x }"),
]

PLANS = [
    (("whole", "once", "black", (), ("old",), ("back", "old")), "whole once black - old back,old"),
    (("fields", "again", "white", ("back", "new", "old"), (), ()), "fields again white back,new,old - -"),
    (("whole", "kept", "grey", (), (), ()), "whole kept grey - - -"),
]

STEPS = [
    (("begin",), "begin"), (("end",), "end"), (("scan", 0), "scan 0"), (("scan", 12, "f"), "scan 12 f"), (("scan", 3, -9), "scan 3 -9"),
    (("scan", 3, 0), "scan 3 0"), (("put", 3, "f", ("at", 0)), "put 3 f @0"), (("put", 3, 0, None), "put 3 0 nothing"),
    (("put", 3, "end", "put"[:1]), "put 3 end p"), (("put", 3, "f", -7), "put 3 f -7"), (("fresh", 3, "f"), "fresh 3 f"),
    (("fresh", 0, 7), "fresh 0 7"), (("put", 1, "f", ("at", 10 ** 39)), "put 1 f @1" + "0" * 39),
]

TRACES = [
    ((2, (0,), ((4, "so", 0, True), (4, "cell", 1))), "2 0 ; 4 so 0 yes ; 4 cell 1"), ((0, (), ()), "0 -"), ((1, (), ()), "1 -"),
    ((3, (0, 1, 2), ((0, "tell", 2),)), "3 0,1,2 ; 0 tell 2"),
    ((3, (), ((0, "keep", 0, -5), (1, "keep", 0, "yes"), (2, "keep", 0, None), (3, "move", 0, 1), (4, "work", 0, "add", 1, 2),
              (5, "same", 0, 1, 2), (6, "is", 0, 1), (7, "load", 0, 1, "no"), (8, "store", 0, "f", 1), (9, "alike", 0, 1, False),
              (10, "kind", 2, True), (11, "keep", 1, 1), (12, "keep", 1, 0))),
     "3 - ; 0 keep 0 -5 ; 1 keep 0 yes ; 2 keep 0 nothing ; 3 move 0 1 ; 4 work 0 add 1 2 ; 5 same 0 1 2 ; 6 is 0 1 ; 7 load 0 1 no"
     " ; 8 store 0 f 1 ; 9 alike 0 1 no ; 10 kind 2 yes ; 11 keep 1 1 ; 12 keep 1 0"),
]

OPS_SHOWN = [
    (("keep", 0, -5), "keep 0 -5"), (("keep", 1, "end"), "keep 1 end"), (("keep", 0, None), "keep 0 nothing"), (("move", 0, 1), "move 0 1"),
    (("outer", 0, 1, 2), "outer 0 1 2"), (("into", 1, 0, 2), "into 1 0 2"), (("other", 0, 3, 1), "other 0 3 1"),
    (("work", 0, "same", 1, 2), "work 0 same 1 2"), (("cell", 0), "cell 0"), (("load", 0, 1, "f"), "load 0 1 f"),
    (("store", 0, "f", 1), "store 0 f 1"), (("close", 0, 4), "close 0 4"), (("call", 0, 1, ()), "call 0 1 -"),
    (("call", 0, 1, (2,)), "call 0 1 2"), (("call", 0, 1, (2, 2, 10)), "call 0 1 2,2,10"), (("next", 0, 1), "next 0 1"),
    (("is", 0, "generator", 1), "is 0 generator 1"), (("tell", 0), "tell 0"), (("jump", 7), "jump 7"), (("unless", 0, 7), "unless 0 7"),
    (("turn",), "turn"), (("back", 0), "back 0"), (("end",), "end"), (("throw", 0), "throw 0"), (("try", 7, 0), "try 7 0"), (("untry",), "untry"),
    (("yield", 0), "yield 0"),
]

SMALL = Program({"top": ((), (), (("tell", integer(4)),))}, "top")
TWO = Program({"top": ((("lib", "n", "m"),), (), (("tell", name("m")),)), "lib": ((), ("f", "n"), (("let", "n", integer(6)), ("let", "f", NOTHING))),
               "aside": ((("lib", "n", "m"), ("lib", "f", "f")), (), ())}, "top")
TWO_TEXT = ("main top\nmodule aside import ( lib n m lib f f ) ( ) { }\nmodule lib import ( ) ( f n ) { let n 6 let f nothing }\n"
            "module top import ( lib n m ) ( ) { tell m }\n")

ALL_OPS = (((0, 3, "module", None, tuple(op for op, _ in OPS_SHOWN)), (2, 40, "make", 0, (("end",),)), (0, 0, "maker", 1, (("untry",),))), (0,))
ALL_TEXT = "code 0 3 module -\n" + "".join(text + "\n" for _, text in OPS_SHOWN) + "code 2 40 make 0\nend\ncode 0 0 maker 1\nuntry\norder 0\n"


def deep(many):
    """An expression and a body in which things are so many deep."""
    one, body = X, (("tell", X),)
    for at in range(many):
        one = [work("add", integer(1), one), ("field", one, "f"), cell(a=one), call(X, one), ("next", one)][at % 5]
        body = [(("if", X, body, ()),), (("while", X, body),), (("try", (), "e", body),), (("do", ("make", (), body)),)][at % 4]
    return one, body


class TestShown(unittest.TestCase):
    def test_expressions(self):
        for one, text in EXPRESSIONS:
            self.assertEqual(show_expression(one), text)

    def test_bodies(self):
        for body, text in BODIES:
            self.assertEqual(show_body(body), text)
        self.assertEqual(show_body((("let", "x", cell(a=integer(-3))), ("while", X, (("put", "x", NOTHING),)))),
                         "{ let x cell ( a -3 ) while x { put x nothing } }")

    def test_programs(self):
        self.assertEqual(show_program(SMALL), "main top\nmodule top import ( ) ( ) { tell 4 }\n")
        self.assertEqual(show_program(TWO), TWO_TEXT)

    def test_plans_and_steps(self):
        for plan, text in PLANS:
            self.assertEqual(show_plan(plan), text)
        for step, text in STEPS:
            self.assertEqual(show_step(step), text)

    def test_traces(self):
        for trace, text in TRACES:
            self.assertEqual(show_trace(trace), text)

    def test_codes(self):
        self.assertEqual({op[0] for op, _ in OPS_SHOWN}, set(OPS))
        self.assertTrue(is_codes(ALL_OPS))
        self.assertEqual(show_codes(ALL_OPS), ALL_TEXT)
        end = (("end",),)
        two = (((0, 0, "module", None, end), (0, 0, "make", 0, end), (0, 1, "module", None, end)), (2, 0))
        self.assertEqual(show_codes(two), "code 0 0 module -\nend\ncode 0 0 make 0\nend\ncode 0 1 module -\nend\norder 2,0\n")

    def test_words_with_one_blank_between(self):
        for seed in range(40):
            for program in (made(seed)[2], looping(seed)):
                for text in (show_program(program), show_codes(compiled(program))):
                    self.assertTrue(text.endswith("\n"))
                    self.assertTrue(all(part for line in text[:-1].split("\n") for part in line.split(" ")))

    def test_things_in_one_another(self):
        one, body = deep(30)
        self.assertEqual(show_expression(one).count("add"), 6)
        self.assertEqual(show_body(body).count("while"), 8)
        one, body = deep(3000)
        self.assertEqual((show_expression(one).count("add"), show_body(body).count("while")), (600, 750))


if __name__ == "__main__":
    unittest.main()
