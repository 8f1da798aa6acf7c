"""The examples of README.md are what the program does."""

import doctest
import pathlib
import unittest


class Readme(unittest.TestCase):
    def test_examples(self):
        text = (pathlib.Path(__file__).resolve().parent.parent / "README.md").read_text()
        # The fence behind the last line would pass for what is expected.
        examples = doctest.DocTestParser().get_doctest(text.replace("```", ""), {}, "README.md", None, 0)
        runner = doctest.DocTestRunner(verbose=False)
        self.assertGreater(len(examples.examples), 0)
        self.assertEqual(runner.run(examples).failed, 0)


if __name__ == "__main__":
    unittest.main()
