import doctest
import pathlib
import unittest

README = pathlib.Path(__file__).resolve().parent.parent / "README.md"


class TestReadme(unittest.TestCase):
    def test_its_examples(self):
        text = README.read_text(encoding="utf-8").replace("```\n", "\n")
        test = doctest.DocTestParser().get_doctest(text, {}, "README.md", str(README), 0)
        failed, tried = doctest.DocTestRunner(verbose=False).run(test)
        self.assertEqual(failed, 0)
        self.assertGreater(tried, 5)


if __name__ == "__main__":
    unittest.main()
