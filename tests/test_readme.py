"""The examples in README.md come to what it says."""

import doctest
import pathlib
import unittest


class ReadmeTest(unittest.TestCase):

    def test_examples(self):
        text = (pathlib.Path(__file__).parent.parent / "README.md").read_text(encoding="utf-8")
        test = doctest.DocTestParser().get_doctest(text, {}, "README.md", "README.md", 0)
        self.assertNotEqual(test.examples, [])
        told = []
        results = doctest.DocTestRunner(verbose=False).run(test, out=told.append)
        self.assertEqual(results.failed, 0, "".join(told))


if __name__ == "__main__":
    unittest.main()
