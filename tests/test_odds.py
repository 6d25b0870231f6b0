import random
import unittest

from exact import F, fractions, long_row, pair, pairs, random_row, random_scheme, table
from raising import Raising
from test_schemes import NO_SCHEMES

from oneservesall.errors import (
    DividedByZero, InvalidChances, InvalidIndex, InvalidPair, InvalidScheme, NoFactor,
)
from oneservesall.ladders import ladder
from oneservesall.numbers import below
from oneservesall.odds import behind, far, gain, moved, odds, told_apart
from oneservesall.schemes import factor

TOLD = (((2, 3), (1, 3)), ((1, 3), (2, 3)))
SURE = (((1, 1), (0, 1)), ((0, 1), (1, 1)))
EVEN = ((1, 2), (1, 2))
ONE_ROW = (((1, 4), (0, 1), (3, 4)),)
NO_ROWS = [
    (),
    ((1, 2),),
    ((1, 2), (1, 3)),
    ((1, 2), (1, 1)),
    ((3, 2), (-1, 2)),
    ((2, 4), (1, 2)),
    ((1, 2), (1, 0)),
    ((1, 2), (-1, -2)),
    ((1, 1), (1, 2), (-1, 2)),
]
HUGE = 10 ** 300


def moves(scheme, i, j):
    """All (r, share) of the answers that have a chance at i or j, the share None where it is only at i."""
    told = fractions(scheme)
    for r, (x, y) in enumerate(zip(told[i], told[j])):
        if x or y:
            yield r, (x / y if y else None)


def missing(scheme, i, j):
    return next(((i, j, r) for r, share in moves(scheme, i, j) if share is None), None)


class BehindTest(Raising, unittest.TestCase):
    def test_against_the_library(self):
        rng = random.Random(121)
        for _ in range(80):
            rows, answers = rng.randint(1, 5), rng.randint(1, 5)
            belief, scheme = random_row(rng, rows), random_scheme(rng, rows, answers, True)
            for r in range(answers):
                shares = [b * row[r] for b, row in zip(belief, fractions(scheme))]
                if sum(shares):
                    expected = pairs([x / sum(shares) for x in shares])
                    self.assertEqual(behind(pairs(belief), scheme, r), expected)
                    self.assertEqual(behind(answer=r, scheme=scheme, belief=pairs(belief)), expected)
                else:
                    self.raises(InvalidChances, r, behind, pairs(belief), scheme, r)

    def test_edges(self):
        self.assertEqual(behind(((1, 1),), ONE_ROW, 2), ((1, 1),))
        self.assertEqual(behind(((1, 1), (0, 1)), TOLD, 1), ((1, 1), (0, 1)))
        self.assertEqual(behind(EVEN, SURE, 1), ((0, 1), (1, 1)))
        self.assertEqual(behind(EVEN, (((1, 1),),) * 2, 0), EVEN)
        self.assertEqual(behind(EVEN, (EVEN, ((0, 1), (1, 1))), 0), ((1, 1), (0, 1)))

    def test_an_answer_of_the_chance_zero(self):
        self.raises(InvalidChances, 1, behind, ((1, 1),), ONE_ROW, 1)
        self.raises(InvalidChances, 1, behind, ((1, 1), (0, 1)), SURE, 1)
        self.raises(InvalidChances, 0, behind, ((0, 1), (1, 1)), SURE, 0)
        self.raises(InvalidChances, 2, behind, EVEN, (((1, 2), (1, 2), (0, 1)),) * 2, 2)

    def test_the_odds_move_by_the_factor_at_most(self):
        rng = random.Random(122)
        for n in range(1, 5):
            scheme = random_scheme(rng, n + 1, n + 1)
            belief = pairs(random_row(rng, n + 1, zeros=False))
            most = F(*factor(scheme)[0])
            reached = []
            for i in range(n):
                for r in range(n + 1):
                    there = behind(belief, scheme, r)
                    for one, other in ((i, i + 1), (i + 1, i)):
                        grown = F(*odds(there, one, other)) / F(*odds(belief, one, other))
                        self.assertLessEqual(grown, most)
                        self.assertLessEqual(grown, F(*moved(scheme, one, other)[0]))
                        reached.append((grown, (one, other, r)))
            self.assertIn((most, factor(scheme)[1]), reached)

    def test_behind_answers_that_were_told_and_again(self):
        rng = random.Random(123)
        belief, scheme = pairs(long_row(rng, 5)), table([long_row(rng, 5) for _ in range(5)])
        expected = [F(*x) for x in belief]
        for r in (0, 3, 4, 4, 1):
            belief = behind(belief, scheme, r)
            shares = [x * row[r] for x, row in zip(expected, fractions(scheme))]
            expected = [x / sum(shares) for x in shares]
            self.assertEqual(belief, pairs(expected))

    def test_wrong_inputs(self):
        for wrong in NO_ROWS:
            self.raises(InvalidChances, wrong, behind, wrong, (), 9)
        for wrong in NO_SCHEMES:
            self.raises(InvalidScheme, wrong, behind, EVEN, wrong, 9)
        for wrong in (-1, 2, HUGE):
            self.raises(InvalidIndex, wrong, behind, EVEN, TOLD, wrong)
            self.raises(InvalidIndex, wrong, behind, ((1, 1),), TOLD, wrong)
        self.raises(InvalidPair, (1, 2), behind, ((1, 1),), TOLD, 0)
        self.raises(InvalidPair, (3, 2), behind, ((1, 3), (1, 3), (1, 3)), TOLD, 1)
        self.raises(InvalidPair, (2, 1), behind, EVEN, ONE_ROW, 1)


class OddsTest(Raising, unittest.TestCase):
    def test_against_the_library(self):
        rng = random.Random(124)
        for _ in range(60):
            belief = random_row(rng, rng.randint(1, 5))
            for i, x in enumerate(belief):
                for j, y in enumerate(belief):
                    if y:
                        self.assertEqual(odds(pairs(belief), i, j), pair(x / y))
                        self.assertEqual(odds(j=j, i=i, belief=pairs(belief)), pair(x / y))
                    else:
                        self.raises(DividedByZero, i, odds, pairs(belief), i, j)

    def test_edges(self):
        self.assertEqual(odds(((1, 1),), 0, 0), (1, 1))
        self.assertEqual(odds(((0, 1), (1, 1)), 0, 1), (0, 1))
        self.assertEqual(odds(((1, HUGE), (HUGE - 1, HUGE)), 1, 0), (HUGE - 1, 1))
        self.raises(DividedByZero, 1, odds, ((0, 1), (1, 1)), 1, 0)
        self.raises(DividedByZero, 0, odds, ((0, 1), (1, 1)), 0, 0)

    def test_wrong_inputs(self):
        for wrong in NO_ROWS:
            self.raises(InvalidChances, wrong, odds, wrong, -1, -2)
        for wrong in (-1, 2, HUGE):
            self.raises(InvalidIndex, wrong, odds, EVEN, wrong, -5)
            self.raises(InvalidIndex, wrong, odds, EVEN, 0, wrong)
            self.raises(InvalidIndex, wrong, odds, ((0, 1), (1, 1)), wrong, 0)


class MovedTest(Raising, unittest.TestCase):
    def test_against_the_library(self):
        rng = random.Random(125)
        raised = 0
        for _ in range(150):
            rows, answers = rng.randint(1, 4), rng.randint(1, 4)
            scheme = random_scheme(rng, rows, answers, rng.random() < 0.5)
            i, j = rng.randrange(rows), rng.randrange(rows)
            gone = missing(scheme, i, j)
            if gone is not None:
                raised += 1
                self.raises(NoFactor, gone, moved, scheme, i, j)
                continue
            shares = list(moves(scheme, i, j))
            most = max(share for _, share in shares)
            expected = (pair(most), min(r for r, share in shares if share == most))
            self.assertEqual(moved(scheme, i, j), expected)
            self.assertEqual(moved(j=j, i=i, scheme=scheme), expected)
        self.assertTrue(10 < raised < 100)

    def test_edges(self):
        self.assertEqual(moved(TOLD, 1, 0), ((2, 1), 1))
        self.assertEqual(moved(TOLD, 1, 1), ((1, 1), 0))
        self.assertEqual(moved(ONE_ROW, 0, 0), ((1, 1), 0))
        self.assertEqual(moved(SURE, 1, 1), ((1, 1), 1))
        self.assertEqual(moved((((0, 1), (1, 1)),) * 3, 0, 2), ((1, 1), 1))
        self.assertEqual(moved((((0, 1), (1, 1)), EVEN), 0, 1), ((2, 1), 1))
        self.raises(NoFactor, (1, 0, 0), moved, (((0, 1), (1, 1)), EVEN), 1, 0)
        self.raises(NoFactor, (0, 1, 0), moved, SURE, 0, 1)
        self.raises(NoFactor, (1, 0, 1), moved, SURE, 1, 0)

    def test_counts_that_are_no_neighbours(self):
        for n in range(1, 6):
            for i in range(n + 1):
                for j in range(n + 1):
                    number, r = moved(ladder(n, (2, 5)), i, j)
                    self.assertEqual(number, pair(F(5, 2) ** abs(i - j)))
                    self.assertEqual(r, 0 if i <= j else i)

    def test_wrong_inputs(self):
        for wrong in NO_SCHEMES:
            self.raises(InvalidScheme, wrong, moved, wrong, -1, -2)
            self.raises(InvalidScheme, wrong, far, wrong)
        for wrong in (-1, 2, HUGE):
            self.raises(InvalidIndex, wrong, moved, SURE, wrong, -5)
            self.raises(InvalidIndex, wrong, moved, SURE, 1, wrong)


class FarTest(Raising, unittest.TestCase):
    def test_against_the_library(self):
        rng = random.Random(126)
        raised = 0
        for _ in range(80):
            rows = rng.randint(1, 5)
            scheme = random_scheme(rng, rows, rng.randint(1, 4), rng.random() < 0.2)
            both = [(i, j) for i in range(rows) for j in range(i + 1, rows)]
            gone = [place for i, j in both for place in (missing(scheme, i, j), missing(scheme, j, i)) if place]
            if gone:
                raised += 1
                self.raises(NoFactor, gone[0], far, scheme)
                continue
            expected = [(i, j, pair(max(share for a, b in ((i, j), (j, i)) for _, share in moves(scheme, a, b))))
                        for i, j in both]
            self.assertEqual(far(scheme), tuple(expected))
            self.assertEqual(far(scheme=scheme), tuple(expected))
        self.assertTrue(5 < raised < 60)

    def test_edges(self):
        self.assertEqual(far(ONE_ROW), ())
        self.assertEqual(far(TOLD), ((0, 1, (2, 1)),))
        self.assertEqual(far((((1, 1),),) * 3), ((0, 1, (1, 1)), (0, 2, (1, 1)), (1, 2, (1, 1))))
        # Less one way about than the other way.
        told = table([[F(1, 10), F(9, 10)], [F(1, 2), F(1, 2)]])
        self.assertEqual([moved(told, 0, 1), moved(told, 1, 0), far(told)],
                         [((9, 5), 1), ((5, 1), 0), ((0, 1, (5, 1)),)])

    def test_the_first_pair_from_i_to_j_first(self):
        self.raises(NoFactor, (0, 1, 0), far, SURE)
        self.raises(NoFactor, (1, 0, 0), far, (((0, 1), (1, 1)), EVEN))
        self.raises(NoFactor, (2, 0, 0), far, (((0, 1), (1, 1)), ((0, 1), (1, 1)), EVEN))
        self.raises(NoFactor, (0, 2, 1), far, (EVEN, EVEN, ((1, 1), (0, 1)), ((0, 1), (1, 1))))
        all_three, first_two, outer = ((1, 3),) * 3, EVEN + ((0, 1),), (EVEN[0], (0, 1), EVEN[1])
        self.raises(NoFactor, (0, 1, 2), far, (all_three, first_two))
        self.raises(NoFactor, (1, 0, 2), far, (first_two, all_three))
        self.raises(NoFactor, (0, 1, 1), far, (first_two, outer))
        self.raises(NoFactor, (0, 2, 2), far, (all_three, all_three, first_two))
        self.raises(NoFactor, (2, 0, 2), far, (first_two, first_two, all_three))


class GainTest(Raising, unittest.TestCase):
    def test_by_guessing_answer_by_answer(self):
        rng = random.Random(127)
        for _ in range(80):
            rows, answers = rng.randint(1, 5), rng.randint(1, 5)
            belief, scheme = pairs(random_row(rng, rows)), random_scheme(rng, rows, answers, True)
            right = F(0)
            for r in range(answers):
                chance = sum(F(*b) * row[r] for b, row in zip(belief, fractions(scheme)))
                if chance:
                    there = [F(*x) for x in behind(belief, scheme, r)]
                    guess = there.index(max(there))
                    right += F(*belief[guess]) * F(*scheme[guess][r])
            self.assertEqual(gain(belief, scheme), pair(right))
            self.assertEqual(gain(scheme=scheme, belief=belief), pair(right))

    def test_edges(self):
        self.assertEqual(gain(((1, 1),), ONE_ROW), (1, 1))
        self.assertEqual(gain(EVEN, SURE), (1, 1))
        self.assertEqual(gain(EVEN, (EVEN, EVEN)), (1, 2))
        self.assertEqual(gain(((9, 10), (1, 10)), TOLD), (9, 10))
        self.assertEqual(gain(((0, 1), (1, 1)), TOLD), (1, 1))

    def test_wrong_inputs(self):
        for wrong in NO_ROWS:
            self.raises(InvalidChances, wrong, gain, wrong, ())
        for wrong in NO_SCHEMES:
            self.raises(InvalidScheme, wrong, gain, EVEN, wrong)
        self.raises(InvalidPair, (1, 2), gain, ((1, 1),), TOLD)
        self.raises(InvalidPair, (2, 1), gain, EVEN, ONE_ROW)


class ToldApartTest(Raising, unittest.TestCase):
    def test_against_the_library(self):
        rng = random.Random(128)
        for _ in range(80):
            many = rng.randint(1, 6)
            one, other = random_row(rng, many), random_row(rng, many)
            expected = pair(sum(max(x, y) for x, y in zip(one, other)) / 2)
            self.assertEqual(told_apart(pairs(one), pairs(other)), expected)
            self.assertEqual(told_apart(other=pairs(other), one=pairs(one)), expected)
            self.assertEqual(gain(EVEN, table([one, other])), expected)
            self.assertIs(below(expected, (1, 2)), False)

    def test_edges(self):
        self.assertEqual(told_apart(((1, 1),), ((1, 1),)), (1, 2))
        self.assertEqual(told_apart(TOLD[0], TOLD[0]), (1, 2))
        self.assertEqual(told_apart(*SURE), (1, 1))

    def test_wrong_inputs(self):
        for wrong in NO_ROWS:
            self.raises(InvalidChances, wrong, told_apart, wrong, ())
            self.raises(InvalidChances, wrong, told_apart, ((1, 5),) * 5, wrong)
        self.raises(InvalidPair, (2, 1), told_apart, EVEN, ((1, 1),))
        self.raises(InvalidPair, (1, 2), told_apart, ((1, 1),), EVEN)


if __name__ == "__main__":
    unittest.main()
