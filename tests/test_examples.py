"""All examples of the document's interface, exactly as printed there."""

import doctest
import pathlib
import unittest

EXAMPLES = pathlib.Path(__file__).with_name("examples.txt")
README = pathlib.Path(__file__).parent.parent / "README.md"


class Examples(unittest.TestCase):
    def test_examples_of_the_document(self):
        self.run_all(EXAMPLES)

    def test_examples_of_the_readme(self):
        self.run_all(README)

    def run_all(self, path):
        text = path.read_text()
        asked = doctest.DocTestParser().get_doctest(text, {}, path.name, str(path), 0)
        told = []
        result = doctest.DocTestRunner().run(asked, out=told.append)
        self.assertEqual(result.failed, 0, "".join(told))
        self.assertEqual(result.attempted, text.count(">>>"))
        self.assertGreater(result.attempted, 0)


if __name__ == "__main__":
    unittest.main()
