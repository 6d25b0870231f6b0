"""The examples of the document, word for word, in its sequence: later ones use the names of earlier ones."""

import doctest
import unittest
from pathlib import Path

README = Path(__file__).resolve().parent.parent / "README.md"

EXAMPLES = {
    "chances": r"""
>>> from oneservesall.chances import draw, mapped, mean, ratio_of
>>> coin = draw([(1, (1, 4)), (0, (1, 2)), (1, (1, 4))])
>>> [coin, mean(coin), mapped(coin, {0: 3, 1: 3}), ratio_of(coin, ((0, (1, 3)), (1, (2, 3))))]
[((0, (1, 2)), (1, (1, 2))), (1, 2), ((3, (1, 1)),), ((3, 2), 0)]
""",
    "schemes": r"""
>>> from oneservesall.schemes import asked_both, factor, has_factor, read_by
>>> told = (((2, 3), (1, 3)), ((1, 3), (2, 3)))
>>> [factor(told), has_factor(told, (3, 2)), factor(asked_both(told, told)), read_by(told, (((1, 1), (0, 1)), ((1, 2), (1, 2))))]
[((2, 1), (0, 1, 0)), False, ((4, 1), (0, 1, 0)), (((5, 6), (1, 6)), ((2, 3), (1, 3)))]
""",
    "ladders": r"""
>>> from oneservesall.ladders import ladder, unladder, wide
>>> ladder(2, (1, 2))
(((2, 3), (1, 6), (1, 6)), ((1, 3), (1, 3), (1, 3)), ((1, 6), (1, 6), (2, 3)))
>>> [unladder(1, (1, 2)), wide(2, (1, 2), 1), wide(2, (1, 2), 2)]
[(((2, 1), (-1, 1)), ((-1, 1), (2, 1))), (2, 3), (1, 6)]
""",
    "readings": r"""
>>> from oneservesall.readings import bend, best_reading, cost, mixed_of, read_ladder
>>> plain = (((0, 1), (1, 1)), ((0, 1), (1, 1)))
>>> even, sure = (((1, 2), (1, 2)), plain), (((9, 10), (1, 10)), plain)
>>> [best_reading(1, (1, 2), even), best_reading(1, (1, 2), sure), cost(read_ladder(1, (1, 2), (0, 1)), even)]
[(0, 1), (0, 0), (1, 3)]
>>> [mixed_of((((1, 2), (1, 2)), ((1, 2), (1, 2))), (1, 2)), bend((((9, 10), (1, 10)), ((1, 10), (9, 10))), (1, 2))]
[(((1, 2), (1, 2)), ((1, 2), (1, 2))), (0, 1)]
""",
    "best": r"""
>>> from oneservesall.best import best, is_shown, least_cost, shown
>>> [best(1, (1, 2), even)[:2], best(1, (1, 2), sure)[:2], least_cost(2, (1, 1), (((1, 3), (1, 3), (1, 3)), (((0, 1), (1, 1), (2, 1)),) * 3))]
[((1, 3), (0, 1)), ((1, 10), (0, 0)), (2, 3)]
>>> paper = (((1, 6), (1, 6)), (((1, 3), (0, 1)),), (((0, 1), (1, 3)),))
>>> [is_shown(1, (1, 2), even, paper), shown(paper), is_shown(1, (1, 2), sure, paper)]
[True, (1, 3), False]
""",
    "steady": r"""
>>> from oneservesall.steady import is_steady, steady, worst
>>> [worst(told, plain), steady(1, (1, 2), plain)[0], is_steady(1, (1, 2), plain, ((1, 3), (((1, 1), (0, 1)), ((0, 1), (1, 1))), ((1, 2), (1, 2))))]
[((1, 3), 0), (1, 3), True]
""",
    "odds": r"""
>>> from oneservesall.odds import behind, gain, moved, told_apart
>>> [behind(((1, 2), (1, 2)), told, 0), moved(told, 0, 1), gain(((1, 2), (1, 2)), told), told_apart(told[0], told[1])]
[((2, 3), (1, 3)), ((2, 1), 0), (2, 3), (2, 3)]
""",
    "makes": r"""
>>> from oneservesall.makes import as_good, is_made, made_of
>>> blind = (((1, 2), (1, 2)), ((1, 2), (1, 2)))
>>> [made_of(told, blind)[0], made_of(blind, told)[0], as_good(told, blind), is_made(blind, told, ('parted', plain))]
['made', 'parted', 'one', False]
>>> is_made(blind, told, ('parted', (((0, 1), (1, 1)), ((1, 1), (0, 1)))))
True
""",
    "samplers": r"""
>>> from oneservesall.samplers import chances_within, drawn, mean_bits, sampler
>>> thirds = sampler(((0, (1, 3)), (1, (2, 3))))
>>> [thirds, drawn(thirds, (1, 1, 1, 0)), drawn(thirds, (1,)), mean_bits(thirds), chances_within(thirds, 1)]
[(2, (0, 1, 1)), (1, 4), None, (8, 3), [(0, (1, 4)), (1, (1, 2))]]
""",
    "questions": r"""
>>> from oneservesall.questions import answer, passes, range_of, worth
>>> schema = (('age', (1, 5, 9)), ('ill', (0, 1)))
>>> sick = ('is', ('value', 'ill'), ('number', 1))
>>> old = ('sum', sick, ('value', 'age'), 0, 6)
>>> table = ((1, 1), (9, 1), (5, 0))
>>> [worth(schema, ('times', ('value', 'age'), ('number', 2)), (5, 0)), passes(schema, sick, (5, 0)), answer(schema, ('count', sick), table), answer(schema, old, table), range_of(schema, old, 2)]
[10, False, 2, 7, (0, 12)]
""",
    "folds": r"""
>>> from oneservesall.folds import alike, standings, stepped
>>> [standings(schema, ('count', sick), 3), stepped(schema, ('different', sick, ('value', 'age')), (1, 9), (5, 1)), len(alike(schema, old))]
[[0, 1, 2, 3], (1, 5, 9), 4]
""",
    "stretches": r"""
>>> from oneservesall.stretches import pairs, row_stretch, stretch
>>> [stretch(schema, old, 3)[0], pairs(schema, ('count', sick), 2), row_stretch(schema, (('count', sick), old), 3)]
[6, [(0, 0), (0, 1), (1, 1), (1, 2), (2, 2)], 7]
""",
    "releases": r"""
>>> from oneservesall.releases import ladder_release, outputs, release_factor
>>> counted = ladder_release(schema, ('count', sick), 2, (1, 2))
>>> [counted[1:3], outputs(schema, counted, ((1, 1), (5, 0))), release_factor(schema, counted, 2)[0]]
[(0, 2), ((1, 3), (1, 3), (1, 3)), (2, 1)]
""",
    "ledgers": r"""
>>> from oneservesall.ledgers import Ledger, moved_by
>>> ledger = Ledger(schema, ((1, 1), (5, 0)), (3, 1))
>>> [ledger.ask(counted, (1, 2)), ledger.paid, ledger.left, moved_by(schema, ((1, 1), (5, 0)), ((1, 0), (5, 0)), ledger.history())]
[1, (2, 1), (3, 2), (2, 1)]
""",
    "texts": r"""
>>> from oneservesall.texts import show_part, show_release, show_schema
>>> [show_part(old), show_schema(schema)]
['(sum (is (value ill) 1) (value age) 0 6)', 'age : 1 5 9\nill : 0 1']
>>> show_release(counted).split('\n')
['(count (is (value ill) 1))', '0 2', '2/3 1/6 1/6', '1/3 1/3 1/3', '1/6 1/6 2/3']
""",
}


class ExamplesTest(unittest.TestCase):
    def says_so(self, name, text, names):
        """Runs examples with the names of earlier ones, and returns these and their own."""
        example = doctest.DocTestParser().get_doctest(text, names, name, None, 0)
        self.assertTrue(example.examples)
        said = []
        found = doctest.DocTestRunner(verbose=False).run(example, out=said.append, clear_globs=False)
        self.assertEqual((found.failed, "".join(said)), (0, ""))
        return example.globs

    def test_each_section(self):
        names = {}
        for name, text in EXAMPLES.items():
            names = self.says_so(name, text, names)

    def test_the_readme(self):
        names = {}
        # Between the fences; the last of these are for a shell.
        for text in README.read_text("ascii").split("```")[1::2]:
            if ">>>" in text:
                names = self.says_so("README.md", text, names)
        self.assertIn("console", names)


if __name__ == "__main__":
    unittest.main()
