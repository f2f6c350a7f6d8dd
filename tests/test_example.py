"""The example of the document, word by word."""

import doctest
import unittest

EXAMPLE = """
>>> from tiredpots.notation import read_book
>>> from tiredpots.paying import ask
>>> from tiredpots.shades import cloth_taint, compare, pot_taint, sure_ratio
>>> book = read_book("kind wool loose\\nkind silk fast\\nthirst wool silk\\npot madder\\npot weld\\n")
>>> book.add_cloth("shawl", "wool")
>>> book.add_cloth("ribbon", "silk")
>>> [book.dip("shawl", "madder"), book.dip("ribbon", "madder")]
[0, 1]
>>> [book.dip("shawl", "weld"), book.dip("ribbon", "weld")]
[2, 3]
>>> book.amounts()
[('take', 0), ('take', 1), ('take', 2), ('leave', 2), ('take', 3)]
>>> list(book.held("shawl"))
[(('take', 0), 1), (('take', 2), 1), (('leave', 2), -1)]
>>> ask(book, book.held("shawl", at=2) - book.held("ribbon", at=2)).payments
[(('take', 0), ('take', 1), 1)]
>>> [compare(book, "shawl", "ribbon", at=2), compare(book, "shawl", "ribbon")]
['>=', '?']
>>> [pot_taint(book, "weld"), cloth_taint(book, "ribbon"), cloth_taint(book, "shawl")]
['surely', 'surely', 'never']
>>> ratio = sure_ratio(book, book.held("shawl"), book.held("ribbon"))
>>> [ratio.top, ratio.low]
[0, 1]
"""


class ExampleTests(unittest.TestCase):
    def test_the_example(self):
        example = doctest.DocTestParser().get_doctest(EXAMPLE, {}, "example", None, 0)
        self.assertEqual((0, 15), tuple(doctest.DocTestRunner(verbose=False).run(example))[:2])


if __name__ == "__main__":
    unittest.main()
