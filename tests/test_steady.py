import random
import unittest

from exact import (
    F, LONG_RATIOS, fractions, ladder_table, least_ladder_cost, long_number, losses_of, moved_scheme,
    multiplied, odd_losses, pair, pairs, random_asker, random_ratio, random_row, random_scheme, table,
)
from raising import Raising
from test_readings import NO_RATIOS, NO_SCHEMES, PLAIN

from oneservesall.best import best, is_shown, least_cost
from oneservesall.errors import InvalidAsker, InvalidNumber, InvalidPair, InvalidPaper, InvalidRatio, InvalidScheme
from oneservesall.ladders import ladder
from oneservesall.schemes import is_scheme, read_by
from oneservesall.steady import is_steady, steady, worst

TOLD = (((2, 3), (1, 3)), ((1, 3), (2, 3)))
SURE = (((1, 1), (0, 1)), ((0, 1), (1, 1)))
EVEN = ((1, 2), (1, 2))
STEADY = ((1, 3), SURE, EVEN)
NO_LOSSES = [
    (),
    PLAIN[:1],
    PLAIN + PLAIN[:1],
    (((0, 1),), ((0, 1),)),
    (PLAIN[0], ((0, 1),)),
    (PLAIN[0], ((0, 1), (1, 1), (2, 1))),
    (PLAIN[0], ((1, 1), (0, 1))),
    (((1, 2), (1, 3)), PLAIN[1]),
    (((-1, 1), (1, 1)), PLAIN[1]),
    (PLAIN[0], ((0, 1), (2, 2))),
    (PLAIN[0], ((0, 1), (1, 0))),
    (PLAIN[0], ()),
]
LITTLE = F(1, 10 ** 40)


def costs_of(scheme, loss):
    """What a scheme of fractions costs at each count."""
    return [sum(x * y for x, y in zip(row, losses_of(loss, i))) for i, row in enumerate(scheme)]


def random_loss(rng, n):
    return random_asker(rng, n)[1]


def long_loss(rng, n):
    return table([sorted(long_number(rng) for _ in range(n + 1)) for _ in range(n + 1)])


def is_right(n, a, loss, told):
    """What the document says of a steady reading, worked out apart from the program."""
    number, mixed, belief = told
    costs = costs_of(multiplied(ladder_table(n, a), fractions(mixed)), loss)
    return max(costs) == F(*number) == least_ladder_cost(n, a, (belief, loss))


class WorstTest(Raising, unittest.TestCase):
    def test_against_the_library(self):
        rng = random.Random(101)
        for n in (0, 1, 2, 4, 9):
            for _ in range(6):
                scheme, loss = random_scheme(rng, n + 1, n + 1, True), random_loss(rng, n)
                costs = costs_of(fractions(scheme), loss)
                expected = (pair(max(costs)), costs.index(max(costs)))
                self.assertEqual(worst(scheme, loss), expected)
                self.assertEqual(worst(loss=loss, scheme=scheme), expected)

    def test_the_first_of_equal_counts(self):
        self.assertEqual(worst(TOLD, PLAIN), ((1, 3), 0))
        self.assertEqual(worst(SURE, PLAIN), ((0, 1), 0))
        self.assertEqual(worst(SURE, (((0, 1), (9, 1)), ((2, 1), (2, 1)))), ((2, 1), 1))
        self.assertEqual(worst((((1, 1), (0, 1)),) * 2, PLAIN), ((1, 1), 1))
        for n in range(5):
            self.assertEqual(worst(ladder(n, (1, 2)), table([[3] * (n + 1)] * (n + 1))), ((3, 1), 0))
        steps = table([[0, 1, 2]] * 3)
        self.assertEqual(worst(table([[1, 0, 0], [0, 0, 1], [0, 1, 0]]), steps), ((1, 1), 1))

    def test_one_count(self):
        self.assertEqual(worst((((1, 1),),), (((7, 3),),)), ((7, 3), 0))

    def test_wrong_inputs(self):
        for wrong in NO_SCHEMES:
            self.raises(InvalidScheme, wrong, worst, wrong, ())
        for wrong in NO_LOSSES:
            self.raises(InvalidAsker, wrong, worst, TOLD, wrong)
            self.raises(InvalidAsker, wrong, worst, (((1, 1),),) * 2, wrong)
        self.raises(InvalidAsker, PLAIN, worst, (((1, 1),),), PLAIN)
        self.raises(InvalidAsker, PLAIN, worst, ladder(2, (1, 2)), PLAIN)
        self.raises(InvalidPair, (2, 3), worst, (((1, 3), (1, 3), (1, 3)),) * 2, PLAIN)
        self.raises(InvalidPair, (2, 1), worst, (((1, 1),),) * 2, PLAIN)


class SteadyTest(Raising, unittest.TestCase):
    def told(self, n, ratio, loss):
        told = steady(n, ratio, loss)
        number, mixed, belief = told
        self.assertIs(type(told), tuple)
        self.assertIs(is_scheme(mixed), True)
        self.assertEqual({len(row) for row in mixed} | {len(mixed)}, {n + 1})
        self.assertEqual((len(belief), sum(F(*x) for x in belief)), (n + 1, 1))
        self.assertTrue(all(x[0] >= 0 for x in belief))
        self.assertIs(is_right(n, F(*ratio), loss, told), True)
        self.assertIs(is_steady(n, ratio, loss, told), True)
        return told

    def test_drawn_losses(self):
        rng = random.Random(102)
        for n in range(5):
            for _ in range(8):
                self.told(n, random_ratio(rng, one=True), random_loss(rng, n))

    def test_by_name(self):
        self.assertEqual(steady(loss=PLAIN, ratio=(1, 2), n=1), steady(1, (1, 2), PLAIN))
        self.assertIs(is_steady(told=STEADY, loss=PLAIN, ratio=(1, 2), n=1), True)

    def test_the_edges_of_losses(self):
        for n in range(5):
            for ratio in [(1, 2), (1, 1), (1, 100)]:
                for loss in odd_losses(n):
                    self.told(n, ratio, loss)

    def test_known_ones(self):
        self.assertEqual(self.told(0, (1, 2), (((7, 3),),)), ((7, 3), (((1, 1),),), ((1, 1),)))
        self.assertEqual(self.told(2, (1, 2), table([[0] * 3] * 3))[0], (0, 1))
        self.assertEqual(self.told(2, (1, 2), table([[F(5, 3)] * 3] * 3))[0], (5, 3))
        # Of two counts nothing is better than to tell the ladder's answers.
        for ratio in [(1, 2), (2, 3), (1, 9), (1, 1)]:
            self.assertEqual(self.told(1, ratio, PLAIN)[0], pair(F(*ratio) / (1 + F(*ratio))))
        # Where the answers tell nothing, one tells the middle, or mixes the counts that are worst for others.
        self.assertEqual(self.told(2, (1, 1), table([[0, 1, 2]] * 3))[0], (1, 1))
        self.assertEqual(self.told(3, (1, 1), table([[0, 1, 1, 1]] * 4))[0], (3, 4))

    def test_no_mixed_reading_is_better_at_its_worst(self):
        rng = random.Random(103)
        for n in range(1, 5):
            for _ in range(4):
                ratio, loss = random_ratio(rng, one=True), random_loss(rng, n)
                number, rows = F(*self.told(n, ratio, loss)[0]), ladder_table(n, F(*ratio))
                for _ in range(25):
                    mixed = [random_row(rng, n + 1) for _ in range(n + 1)]
                    self.assertGreaterEqual(max(costs_of(multiplied(rows, mixed), loss)), number)

    def test_no_scheme_of_the_factor_is_better_at_its_worst(self):
        rng = random.Random(104)
        for n in range(1, 5):
            for _ in range(4):
                ratio, loss = random_ratio(rng, one=True), random_loss(rng, n)
                number = F(*self.told(n, ratio, loss)[0])
                for _ in range(25):
                    drawn = moved_scheme(rng, n, F(*ratio))
                    self.assertGreaterEqual(max(costs_of(drawn, loss)), number)

    def test_numbers_of_eight_figures_and_what_is_told_of_them(self):
        rng = random.Random(105)
        for n in range(5):
            for ratio in LONG_RATIOS:
                loss = long_loss(rng, n)
                number, mixed, belief = self.told(n, ratio, loss)
                self.assertEqual(least_cost(n, ratio, (belief, loss)), number)
                self.assertEqual(worst(read_by(ladder(n, ratio), mixed), loss)[0], number)
                told = best(n, ratio, (belief, loss))
                self.assertEqual(told[0], number)
                self.assertIs(is_shown(n, ratio, (belief, loss), told[2]), True)
                self.told(n, ratio, ((number,) * (n + 1),) * (n + 1))

    def test_wrong_inputs(self):
        for wrong in (-1, -7):
            self.raises(InvalidNumber, wrong, steady, wrong, (0, 1), ())
        for wrong in NO_RATIOS:
            self.raises(InvalidRatio, wrong, steady, 1, wrong, ())
        for wrong in NO_LOSSES:
            self.raises(InvalidAsker, wrong, steady, 1, (1, 2), wrong)
        self.raises(InvalidAsker, PLAIN, steady, 0, (1, 2), PLAIN)
        self.raises(InvalidAsker, PLAIN, steady, 2, (1, 2), PLAIN)


class IsSteadyTest(Raising, unittest.TestCase):
    def test_each_part_alone(self):
        number, mixed, belief = STEADY
        for wrong in (F(1, 3) + LITTLE, F(1, 3) - LITTLE, 0, -1):
            self.assertIs(is_steady(1, (1, 2), PLAIN, (pair(wrong), mixed, belief)), False)
        for row in ([1 - LITTLE, LITTLE], [0, 1]):
            self.assertIs(is_steady(1, (1, 2), PLAIN, (number, table([row, [0, 1]]), belief)), False)
        for wrong in ([F(2, 3) + LITTLE, F(1, 3) - LITTLE], [1, 0], [0, 1]):
            self.assertIs(is_steady(1, (1, 2), PLAIN, (number, mixed, pairs(wrong))), False)
        # Both answers are told as they are as long as neither count is twice as likely.
        for right in ([F(2, 3), F(1, 3)], [F(1, 2) + LITTLE, F(1, 2) - LITTLE], [F(1, 3), F(2, 3)]):
            self.assertIs(is_steady(1, (1, 2), PLAIN, (number, mixed, pairs(right))), True)
        # The number of the mixed reading alone, and of the belief alone.
        blind = (EVEN,) * 2
        self.assertIs(is_steady(1, (1, 2), PLAIN, ((1, 2), blind, belief)), False)
        self.assertIs(is_steady(1, (1, 2), PLAIN, ((0, 1), mixed, pairs([1, 0]))), False)
        self.assertIs(is_steady(1, (1, 2), PLAIN, (number, blind, belief)), False)
        # Another ratio is another thing.
        self.assertIs(is_steady(1, (2, 3), PLAIN, STEADY), False)
        self.assertIs(is_steady(1, (2, 3), PLAIN, ((2, 5), mixed, belief)), True)

    def test_bends_of_told_ones(self):
        rng = random.Random(106)
        found = set()
        for _ in range(60):
            n, ratio = rng.randint(1, 3), random_ratio(rng, one=True)
            loss = random_loss(rng, n)
            number, mixed, belief = steady(n, ratio, loss)
            for _ in range(3):
                rows = fractions(mixed)
                row = rng.choice(rows)
                row[:] = random_row(rng, n + 1)
                other = pairs(random_row(rng, n + 1))
                for told in [(number, table(rows), belief), (number, mixed, other)]:
                    expected = is_right(n, F(*ratio), loss, told)
                    found.add(expected)
                    self.assertIs(is_steady(n, ratio, loss, told), expected)
            wrong = (pair(F(*number) + LITTLE), mixed, belief)
            self.assertIs(is_steady(n, ratio, loss, wrong), False)
        self.assertEqual(found, {True, False})

    def test_other_forms_and_sizes(self):
        number, mixed, belief = STEADY
        for wrong in [
            (),
            (number, mixed),
            (number, mixed, belief, belief),
            ((2, 6), mixed, belief),
            ((1, 0), mixed, belief),
            (number, (), belief),
            (number, mixed[:1], belief),
            (number, mixed + mixed[:1], belief),
            (number, (((1, 1),), ((1, 1),)), belief),
            (number, (((1, 3), (1, 3), (1, 3)),) * 2, belief),
            (number, (((1, 2), (1, 3)), mixed[1]), belief),
            (number, (((3, 2), (-1, 2)), mixed[1]), belief),
            (number, mixed, ()),
            (number, mixed, ((1, 1),)),
            (number, mixed, ((1, 3), (1, 3), (1, 3))),
            (number, mixed, ((1, 2), (1, 3))),
            (number, mixed, ((3, 2), (-1, 2))),
            (number, mixed, ((2, 4), (1, 2))),
            (7, mixed, belief),
            (number, 7, belief),
            (number, mixed, 7),
            "told",
            7,
        ]:
            self.raises(InvalidPaper, wrong, is_steady, 1, (1, 2), PLAIN, wrong)
        self.raises(InvalidPaper, STEADY, is_steady, 0, (1, 2), (((0, 1),),), STEADY)

    def test_wrong_inputs(self):
        for wrong in (-1, -7):
            self.raises(InvalidNumber, wrong, is_steady, wrong, (0, 1), (), ())
        for wrong in NO_RATIOS:
            self.raises(InvalidRatio, wrong, is_steady, 1, wrong, (), ())
        for wrong in NO_LOSSES:
            self.raises(InvalidAsker, wrong, is_steady, 1, (1, 2), wrong, ())


if __name__ == "__main__":
    unittest.main()
