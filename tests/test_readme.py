import doctest
import pathlib
import unittest


class ReadmeTests(unittest.TestCase):
    def test_the_example_of_the_readme(self):
        readme = pathlib.Path(__file__).resolve().parent.parent / "README.md"
        text = readme.read_text(encoding="utf-8").replace("```", "")
        example = doctest.DocTestParser().get_doctest(text, {}, "README.md", None, 0)
        self.assertGreater(len(example.examples), 0)
        self.assertEqual(0, doctest.DocTestRunner(verbose=False).run(example).failed)


if __name__ == "__main__":
    unittest.main()
