import unittest

from reachkept import errors
from reachkept.errors import ReachError
from reachkept.heaps import Heap

FIELDS = {
    "Wrong": ["place"], "Gone": ["number"], "NoField": ["number", "field"], "Missing": ["name"], "Round": ["name"],
    "NoExport": ["home", "name"], "Loose": ["home", "name"], "Fixed": ["home", "name"],
    "Misplaced": ["home", "word"], "NoModule": ["name"], "Over": [], "NoStep": [], "Stopped": ["index"],
    "Unlike": [], "NoTrace": [], "NoFit": [], "TooFar": ["number"], "Nothing": [], "NoText": [], "NoDeed": [],
    "NoNumber": ["number"], "Losing": ["shown"], "Broken": ["number", "found"], "NoCommand": [],
}


class TestErrors(unittest.TestCase):
    def test_there_are_twenty_four_and_no_others(self):
        self.assertEqual(len(FIELDS), 24)
        classes = [key for key, thing in vars(errors).items() if isinstance(thing, type)]
        self.assertEqual(sorted(classes), sorted([*FIELDS, "ReachError"]))

    def test_each_is_a_direct_subclass(self):
        self.assertEqual(ReachError.__bases__, (ValueError,))
        for key in FIELDS:
            self.assertEqual(getattr(errors, key).__bases__, (ReachError,), key)

    def test_each_keeps_the_objects_themselves(self):
        for key, fields in FIELDS.items():
            values = [[index] for index in range(len(fields))]
            error = getattr(errors, key)(*values)
            for field, value in zip(fields, values):
                self.assertIs(getattr(error, field), value)
            named = getattr(errors, key)(**dict(zip(fields, values)))
            for field, value in zip(fields, values):
                self.assertIs(getattr(named, field), value)

    def test_each_may_be_made_with_any_values(self):
        for key, fields in FIELDS.items():
            for value in [None, True, {}, [[]], Heap(), ReachError(), "a\nb", -5]:
                error = getattr(errors, key)(*[value for _ in fields])
                for field in fields:
                    self.assertIs(getattr(error, field), value)
                str(error)
                repr(error)

    def test_each_takes_just_its_arguments(self):
        for key, fields in FIELDS.items():
            if fields:
                with self.assertRaises(TypeError):
                    getattr(errors, key)()
                with self.assertRaises(TypeError):
                    getattr(errors, key)(*range(len(fields) + 1))

    def test_each_is_caught_as_a_value_error(self):
        with self.assertRaises(ValueError):
            raise ReachError()
        with self.assertRaises(ReachError) as caught:
            raise errors.NoField(4, "a")
        self.assertEqual((caught.exception.number, caught.exception.field), (4, "a"))


if __name__ == "__main__":
    unittest.main()
