import random
import unittest

from reachkept.compiling import compiled
from reachkept.errors import NoText, ReachError
from reachkept.forms import is_body, is_expression
from reachkept.notation import (show_body, show_codes, show_expression, show_plan, show_program, show_step, show_trace)
from reachkept.plans import plans
from reachkept.readers import (read_body, read_codes, read_expression, read_plan, read_program, read_step, read_trace)
from tests.loops import looping
from tests.made import made
from tests.test_judging import Chance
from tests.test_notation import (ALL_OPS, ALL_TEXT, BODIES, EXPRESSIONS, PLANS, SMALL, STEPS, TRACES, TWO, TWO_TEXT, deep)

SORTS = {
    "expression": (read_expression, show_expression, [text for _, text in EXPRESSIONS]),
    "body": (read_body, show_body, [text for _, text in BODIES]),
    "program": (read_program, show_program, [show_program(SMALL), TWO_TEXT]),
    "plan": (read_plan, show_plan, [text for _, text in PLANS]),
    "step": (read_step, show_step, [text for _, text in STEPS]),
    "trace": (read_trace, show_trace, [text for _, text in TRACES]),
    "codes": (read_codes, show_codes, [ALL_TEXT, "code 0 1 module -\njump 9\norder 0\n"]),
}

WORDS = ["x", "let", "(", ")", "{", "}", "0", "-1", "-0", "+1", "01", "00", "-01", "nothing", "word", "integer", "add", "is", "cell", "make", "-", "--",
         ",", "a,b", "new,old", "old,new", "0,1", "1,0", "0,0", "@0", "@", "@-1", "@01", "@x", "yes", "no", "True", "None", "name", "work", ";", "/",
         "abcdefghi", "X", "1x", "x1", "_", "code", "order", "main", "module", "import", "\n", "\t", "end", "begin", "1.0", "1e3", "0x1", "1_0",
         "\u0661", "\u00b2", "\u0430", "make)", "(x", "{}"]


def otherwise(text, chance, most):
    """Texts that are like one but for a word, a sign, a blank or a line feed."""
    found = [text + " ", " " + text, text + "\n", "\n" + text, text.replace(" ", "  ", 1), text.replace(" ", "\t", 1), text[:-1], text[1:],
             text + text, text.upper(), text.replace("\n", "\r\n"), text.replace(" ", "\n", 1), text + "\r", text.replace("\n", "\n\n", 1)]
    words = text.split(" ")
    for index in range(len(words)):
        found.append(" ".join(words[:index] + words[index + 1:]))
        found.append(" ".join(words[:index + 1] + words[index:]))
        found.append(" ".join(words[:index] + [""] + words[index:]))
        found.append(" ".join(words[:index] + words[index + 1:index + 2] + words[index:index + 1] + words[index + 2:]))
        for word in WORDS:
            found.append(" ".join(words[:index] + [word] + words[index + 1:]))
            found.append(" ".join(words[:index] + [word] + words[index:]))
    for index in range(len(text)):
        for sign in ("", "-", "0", " ", "\n", "a", ","):
            found.append(text[:index] + sign + text[index + 1:])
            found.append(text[:index] + sign + text[index:])
    return found if len(found) <= most else chance.sample(found, most)


class TestReadBack(unittest.TestCase):
    def test_all_that_is_shown(self):
        for rows, read in ((EXPRESSIONS, read_expression), (BODIES, read_body), (PLANS, read_plan), (STEPS, read_step), (TRACES, read_trace)):
            for thing, text in rows:
                self.assertEqual(read(text), thing)
        self.assertEqual(read_program(show_program(SMALL)), SMALL)
        self.assertEqual(read_program(TWO_TEXT), TWO)
        self.assertEqual(read_codes(ALL_TEXT), ALL_OPS)

    def test_the_example_of_the_document(self):
        self.assertEqual(read_expression("call f ( add 1 y nothing )"),
                         ("call", ("name", "f"), (("work", "add", ("integer", 1), ("name", "y")), ("nothing",))))
        self.assertEqual(read_step("put 3 f @0"), ("put", 3, "f", ("at", 0)))

    def test_programs_and_codes_by_chance(self):
        for seed in range(60):
            for program in (made(seed)[2], looping(seed)):
                self.assertEqual(read_program(show_program(program)), program)
                codes = compiled(program)
                self.assertEqual(read_codes(show_codes(codes)), codes)
                for name in program.modules():
                    body = program.module(name)[2]
                    self.assertEqual(read_body(show_body(body)), body)

    def test_traces_and_plans_by_chance(self):
        for seed in range(60):
            trace = Chance(seed).trace(3, 6)
            self.assertEqual(read_trace(show_trace(trace)), trace)
        for plan in plans("fields", "once", "grey"):
            self.assertEqual(read_plan(show_plan(plan)), plan)

    def test_things_in_one_another(self):
        for many in (30, 400):
            one, body = deep(many)
            self.assertTrue(is_expression(one) and is_body(body))
            self.assertEqual(show_expression(read_expression(show_expression(one))), show_expression(one))
            self.assertEqual(show_body(read_body(show_body(body))), show_body(body))
        one, body = deep(30)
        self.assertEqual((read_expression(show_expression(one)), read_body(show_body(body))), (one, body))
        with self.assertRaises(NoText):
            read_expression("next " * 3000)
        with self.assertRaises(NoText):
            read_body("{ " * 1500)

    def test_integers_of_forty_digits(self):
        for number in (10 ** 40 - 1, -(10 ** 40 - 1), 10 ** 39):
            self.assertEqual(read_expression(str(number)), ("integer", number))
            self.assertEqual(read_step("put 0 f " + str(number)), ("put", 0, "f", number))
            self.assertEqual(read_trace("1 - ; 0 keep 0 " + str(number)), (1, (), ((0, "keep", 0, number),)))
        self.assertEqual(read_trace(str(10 ** 39) + " -"), (10 ** 39, (), ()))

    def test_codes_need_not_be_sound(self):
        self.assertEqual(read_codes("code 0 0 module -\nyield 7\norder 0\n"), (((0, 0, "module", None, (("yield", 7),)),), (0,)))

    def test_what_is_read_is_new(self):
        self.assertEqual(read_body("{ }"), ())
        self.assertIsNot(read_program(TWO_TEXT), TWO)


class TestNoText(unittest.TestCase):
    def refuses(self, sort, text):
        with self.assertRaises(NoText, msg=(sort, text)):
            SORTS[sort][0](text)

    def test_empty_and_strange_texts(self):
        for sort in SORTS:
            for text in ("", " ", "\n", "  ", "-", ",", ";", "@", "(", ")", "{", "{ ", "( )", "\t", "~", "None", "()", "[]"):
                self.refuses(sort, text)
        for sort in SORTS:
            for other, (_, _, texts) in SORTS.items():
                for text in texts:
                    if other != sort and not (sort == "expression" and text in ("begin", "end")):
                        self.refuses(sort, text)
        for text in ("begin", "end"):
            self.assertEqual(read_expression(text), ("name", text))

    def test_integers(self):
        for text in ("-0", "+1", "01", "00", "-01", "--1", "1-", "1.0", "1e3", "0x1", "1_0", " 1", "1 ", "\u0661", "\u00b2", "-", "- 1", "1,0"):
            self.refuses("expression", text)
            self.refuses("step", "put 1 f " + text)
            self.refuses("step", "scan " + text)
            self.refuses("trace", "1 - ; 0 keep 0 " + text)
            self.refuses("trace", "1 - ; " + text + " tell 0")
            self.refuses("codes", "code 0 0 module -\njump " + text + "\norder 0\n")
            self.refuses("codes", "code 0 0 module -\nkeep 0 " + text + "\norder 0\n")
        for text in ("0", "-1", "10"):
            self.assertEqual(read_expression(text), ("integer", int(text)))

    def test_names_that_are_words_of_the_language(self):
        for text in ("let", "add", "import", "nothing x", "word nothing", "word let", "field x is", "cell ( let 1 )", "make ( do ) { }",
                     "word abcdefghi", "abcdefghi", "X", "x1", "a_b", "integer 1", "name x", "work add 1 1", "word 1"):
            self.refuses("expression", text)
        for text in ("{ let let 1 }", "{ put is 1 }", "{ store x try 1 }", "{ try { } cell { } }", "{ let 1 1 }"):
            self.refuses("body", text)

    def test_the_same_name_twice(self):
        for text in ("cell ( a 1 a 2 )", "make ( x x ) { }", "call make ( x y x ) { } ( )"):
            self.refuses("expression", text)
        self.refuses("program", "main top\nmodule lib import ( ) ( n n ) { let n 1 }\nmodule top import ( ) ( ) { }\n")
        self.refuses("program", "main top\nmodule top import ( ) ( ) { }\nmodule top import ( ) ( ) { }\n")

    def test_programs_that_program_refuses(self):
        good = ["main top", "module lib import ( ) ( n ) { let n 6 }", "module top import ( lib n m ) ( ) { tell m }"]
        self.assertEqual(read_program("\n".join(good) + "\n").modules(), ["lib", "top"])
        for index, line in ((0, "main no"), (1, "module lib import ( ) ( ) { let n 6 }"), (1, "module lib import ( ) ( n ) { }"),
                            (1, "module lib import ( top m x ) ( n ) { let n 6 }"), (2, "module top import ( lib n m ) ( ) { tell q }"),
                            (2, "module top import ( lib n m ) ( ) { put m 1 }"), (2, "module top import ( lib n m ) ( ) { back m }"),
                            (2, "module top import ( gone n m ) ( ) { tell m }"), (2, "module top import ( lib n m ) ( ) { yield 1 }")):
            self.refuses("program", "\n".join(good[:index] + [line] + good[index + 1:]) + "\n")
        for lines in (good[:1], good[1:], [good[0], good[2], good[1]], good[:2], [good[0]] + good, good + [""], [""] + good):
            self.refuses("program", "\n".join(lines) + "\n")
        self.refuses("program", "\n".join(good))
        self.refuses("program", "\n".join(good) + "\n\n")
        self.refuses("program", "main top")
        self.refuses("program", "main\n" + "\n".join(good[1:]) + "\n")

    def test_plans(self):
        for text in ("whole once black - -", "whole once black - - - -", "once whole black - - -", "whole once red - - -", "whole once black old,new - -",
                     "whole once black new,new - -", "whole once black new, - -", "whole once black ,new - -", "whole once black new old - -",
                     "whole once black  - -", "whole once black -,new - -", "whole once black x - -", "Whole once black - - -"):
            self.refuses("plan", text)

    def test_steps(self):
        for text in ("begin 0", "end 0", "scan", "scan -1", "scan f", "scan 0 1 2", "scan 0 nothing", "scan 0 @1", "scan 0 let", "put 0 f", "put 0 f 1 2",
                     "put -1 f 1", "put 0 nothing 1", "put 0 @0 1", "put 0 f @-1", "put 0 f @", "put 0 f @x", "put 0 f @01", "put 0 f @+1", "put 0 f let",
                     "fresh 0", "fresh 0 f 1", "fresh f 0", "fresh 0 nothing", "put @0 f 1", "begin begin", "Begin", "scan 0  f"):
            self.refuses("step", text)

    def test_traces(self):
        for text in ("2", "2 0 ;", "2 0 ; ", "2 2", "2 1,0", "2 0,0", "2 0,", "2 -1", "-1 -", "0 0", "2 - ; 0 tell 2", "2 - ; -1 tell 0", "2 - ; 0 tell",
                     "2 - ; 0 tell 0 1", "2 - ; 0 so 0 True", "2 - ; 0 so 0 1", "2 - ; 0 so 0", "2 - ; 0 work 0 same 0 0", "2 - ; 0 keep 0 @0",
                     "2 - ; 0 load 0 0 let", "2 - ; 0 load 0 0 1", "2 - ;0 tell 0", "2 - ; 0 tell 0 ;", "2 - 0 tell 0", "2 - ; 0 is 0 cell 1",
                     "2 - ; tell 0", "2 - ; 0 jump 0", "2 - / 0 tell 0", "2 -,0", "2 - ;  ; 0 tell 0", "2 - ; 0 kind 0 maybe"):
            self.refuses("trace", text)

    def test_codes(self):
        for text in ("code 0 0 module -\nend\n", "code 0 0 module -\nend\norder\n", "code 0 0 module -\nend\norder -\n", "code 0 0 module -\norder 0\n",
                     "code 0 0 module -\nend\norder 1\n", "code 0 0 module -\nend\norder 0,0\n", "code 0 0 module 0\nend\norder 0\n",
                     "code 1 1 module -\nend\norder 0\n", "code 0 0 make -\nend\norder 0\n", "code 1 0 module -\nend\norder 0\n",
                     "end\norder 0\n", "order 0\n", "code 0 0 module -\nend\norder 0", "code 0 0 module -\nend\norder 0\n\n",
                     "code 0 0 module -\nend\n\norder 0\n", "code 0 0 module -\norder 0\nend\n", "code 0 0 module -\ncall 0 0\norder 0\n",
                     "code 0 0 module -\ncall 0 0 1 2\norder 0\n", "code 0 0 module -\ncall 0 0 1,-1\norder 0\n", "code 0 0 module -\nkeep 0 @0\norder 0\n",
                     "code 0 0 module -\nouter 0 0 0\norder 0\n", "code 0 0 module -\nis 0 cells 0\norder 0\n", "code 0 0 module -\nwork 0 is 0 0\norder 0\n",
                     "code 0 0 module -\nload 0 0 let\norder 0\n", "code 0 0 module -\nend 0\norder 0\n", "code 0 0 module - -\nend\norder 0\n",
                     "code 0 0 module -\nend\norder 0 1\n", "code 0 0 module -\nend\norder 0\ncode 0 0 module -\nend\n"):
            self.refuses("codes", text)

    def test_texts_that_are_otherwise_by_one_word_or_sign(self):
        chance = random.Random(4)
        taken = 0
        for sort, (read, show, texts) in SORTS.items():
            for text in texts:
                for other in otherwise(text, chance, 1500 if len(texts) < 6 else 500):
                    try:
                        thing = read(other)
                    except ReachError as error:
                        self.assertIs(type(error), NoText)
                        continue
                    taken += 1
                    # What writes something is just what is shown of it.
                    self.assertEqual(show(thing), other, sort)
        self.assertGreater(taken, 300)


if __name__ == "__main__":
    unittest.main()
