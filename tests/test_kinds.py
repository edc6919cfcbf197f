import unittest

from reachkept.kinds import is_integer, is_name, is_value
from tests.things import STRANGE

RESERVED = """add back call cell do field function generator if import integer is less let make maker module mul
next nothing put quo rest same store sub tell throw try while word yield""".split()


class TestKinds(unittest.TestCase):
    def test_integers(self):
        for thing in [0, 1, -1, 10 ** 40, -(10 ** 40)]:
            self.assertIs(is_integer(thing), True)
        for thing in [True, False, None, "1", (1,), [1], {1: 1}]:
            self.assertIs(is_integer(thing), False)

    def test_names(self):
        for thing in ["a", "z", "abcdefgh", "at", "root", "adds", "lets", "deep"]:
            self.assertIs(is_name(thing), True)
        for thing in ["", "abcdefghi", "A", "aB", "a1", "a_b", "a b", " a", "a\n", "\n", "`", "{", None, 1, True,
                      ["a"], ("a",), {"a": 1}]:
            self.assertIs(is_name(thing), False)

    def test_names_have_the_letters_a_to_z_alone(self):
        for code in range(256):
            self.assertIs(is_name(chr(code)), "a" <= chr(code) <= "z")

    def test_reserved_words_are_no_names(self):
        self.assertEqual(len(RESERVED), 32)
        for word in RESERVED:
            self.assertIs(is_name(word), False, word)
            if len(word) < 8:
                self.assertIs(is_name(word + "x"), True, word)

    def test_values(self):
        for thing in [0, -7, 10 ** 31, "w", "at", None, ("at", 0), ("at", 10 ** 12)]:
            self.assertIs(is_value(thing), True)
        for thing in [True, False, "let", "", ("at",), ("at", -1), ("at", True), ("at", "a"), ("to", 0),
                      ("at", 0, 0), ["at", 0], (), [], {}, ("at", None), ("at", [0])]:
            self.assertIs(is_value(thing), False)

    def test_any_value_is_taken(self):
        for thing in STRANGE:
            for tells in [is_integer, is_name, is_value]:
                self.assertIs(type(tells(thing)), bool)


if __name__ == "__main__":
    unittest.main()
