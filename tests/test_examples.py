"""The examples of the document, word for word, each section by itself."""

import doctest
import unittest
from pathlib import Path

README = Path(__file__).resolve().parent.parent / "README.md"

EXAMPLES = {
    "chances": r"""
>>> from oneservesall.chances import draw, mapped, mean, ratio_of
>>> coin = draw([(1, (1, 4)), (0, (1, 2)), (1, (1, 4))])
>>> [coin, mean(coin), mapped(coin, {0: 3, 1: 3}), ratio_of(coin, ((0, (1, 3)), (1, (2, 3))))]
[((0, (1, 2)), (1, (1, 2))), (1, 2), ((3, (1, 1)),), ((3, 2), 0)]
""",
    "schemes": r"""
>>> from oneservesall.schemes import asked_both, factor, has_factor, read_by
>>> told = (((2, 3), (1, 3)), ((1, 3), (2, 3)))
>>> [factor(told), has_factor(told, (3, 2)), factor(asked_both(told, told)), read_by(told, (((1, 1), (0, 1)), ((1, 2), (1, 2))))]
[((2, 1), (0, 1, 0)), False, ((4, 1), (0, 1, 0)), (((5, 6), (1, 6)), ((2, 3), (1, 3)))]
""",
    "ladders": r"""
>>> from oneservesall.ladders import ladder, unladder, wide
>>> ladder(2, (1, 2))
(((2, 3), (1, 6), (1, 6)), ((1, 3), (1, 3), (1, 3)), ((1, 6), (1, 6), (2, 3)))
>>> [unladder(1, (1, 2)), wide(2, (1, 2), 1), wide(2, (1, 2), 2)]
[(((2, 1), (-1, 1)), ((-1, 1), (2, 1))), (2, 3), (1, 6)]
""",
    "readings": r"""
>>> from oneservesall.readings import bend, best_reading, cost, mixed_of, read_ladder
>>> plain = (((0, 1), (1, 1)), ((0, 1), (1, 1)))
>>> even, sure = (((1, 2), (1, 2)), plain), (((9, 10), (1, 10)), plain)
>>> [best_reading(1, (1, 2), even), best_reading(1, (1, 2), sure), cost(read_ladder(1, (1, 2), (0, 1)), even)]
[(0, 1), (0, 0), (1, 3)]
>>> [mixed_of((((1, 2), (1, 2)), ((1, 2), (1, 2))), (1, 2)), bend((((9, 10), (1, 10)), ((1, 10), (9, 10))), (1, 2))]
[(((1, 2), (1, 2)), ((1, 2), (1, 2))), (0, 1)]
""",
}


class ExamplesTest(unittest.TestCase):
    def says_so(self, name, text):
        example = doctest.DocTestParser().get_doctest(text, {}, name, None, 0)
        self.assertTrue(example.examples)
        said = []
        found = doctest.DocTestRunner(verbose=False).run(example, out=said.append)
        self.assertEqual((found.failed, "".join(said)), (0, ""))

    def test_each_section(self):
        for name, text in EXAMPLES.items():
            self.says_so(name, text)

    def test_the_readme(self):
        self.says_so("README.md", README.read_text("ascii").split("```")[1])


if __name__ == "__main__":
    unittest.main()
