"""The examples of README.md give what stands below them."""

import doctest
import pathlib
import unittest

README = pathlib.Path(__file__).resolve().parent.parent / "README.md"


def examples():
    """The lines of all blocks of Python, the other ones void."""
    inside = False
    for line in README.read_text(encoding="utf-8").splitlines():
        if line.startswith("```"):
            inside = line == "```python"
            yield ""
        else:
            yield line if inside else ""


class ReadmeTest(unittest.TestCase):

    def test_examples(self):
        test = doctest.DocTestParser().get_doctest("\n".join(examples()) + "\n", {}, "README.md", str(README), 0)
        self.assertGreater(len(test.examples), 20)
        told = []
        doctest.DocTestRunner(verbose=False).run(test, out=told.append)
        self.assertEqual("".join(told), "")

    def test_names_of_the_interface(self):
        text = README.read_text(encoding="utf-8")
        for name in ("distances(net)", "span(net)", "rest_steps(halls)", "has_steps(halls)", "shows_rest_steps(halls",
                     "Desk(halls)", "turn_over(one, other)", "undo()", "is_restalike()", "write_net(net)",
                     "read_net(text)", "BadPair", "NoStep", "BadText", "BadLine", ".ci/run"):
            self.assertIn(name, text)


if __name__ == "__main__":
    unittest.main()
