"""The examples in README.md."""

import doctest
import pathlib
import unittest

README = pathlib.Path(__file__).resolve().parent.parent / "README.md"


class ReadmeTest(unittest.TestCase):
    def test_examples(self):
        # A fence would count as the end of what an example returns.
        text = README.read_text(encoding="ascii").replace("```", "")
        examples = doctest.DocTestParser().get_doctest(text, {}, "README.md", None, None)
        result = doctest.DocTestRunner(verbose=False).run(examples)
        self.assertGreater(result.attempted, 20)
        self.assertEqual(result.failed, 0)
