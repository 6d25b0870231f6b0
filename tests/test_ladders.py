import random
import unittest

from exact import F, fractions, ladder_table, multiplied, pair, random_ratio, table
from raising import Raising

from oneservesall.errors import InvalidIndex, InvalidNumber, InvalidRatio
from oneservesall.ladders import chance, ladder, ratio_for, unladder, wide

NO_COUNTS = [-1, -10 ** 30, True, "1", None, (1, 1), [2]]
NO_RATIOS = [(0, 1), (-1, 2), (3, 2), (2, 1), (2, 4), (1, 0), (1, -2), (2, 2), (10 ** 300 + 1, 10 ** 300)]
HUGE = (10 ** 300 - 1, 10 ** 300)
RATIOS = [(1, 2), (1, 3), (2, 3), (9, 10), (1, 1), (1, 10 ** 9), HUGE]


class LadderTest(Raising, unittest.TestCase):
    def test_as_the_document_has_it(self):
        for n in range(10):
            for ratio in RATIOS:
                self.assertEqual(ladder(n, ratio), table(ladder_table(n, F(*ratio))))
        self.assertEqual(ladder(ratio=(1, 2), n=1), (((2, 3), (1, 3)), ((1, 3), (2, 3))))

    def test_rows_sum_to_one_and_the_factor_is_one_by_the_ratio(self):
        for n in range(1, 10):
            for ratio in [(1, 2), (3, 7), HUGE]:
                told = fractions(ladder(n, ratio))
                self.assertEqual([sum(row) for row in told], [1] * (n + 1))
                sides = list(zip(told, told[1:])) + list(zip(told[1:], told))
                self.assertEqual(max(x / y for row, beside in sides for x, y in zip(row, beside)), 1 / F(*ratio))

    def test_n_zero(self):
        for ratio in RATIOS:
            self.assertEqual(ladder(0, ratio), (((1, 1),),))
            self.assertEqual(chance(0, ratio, 0, 0), (1, 1))

    def test_a_ratio_of_one(self):
        self.assertEqual(ladder(1, (1, 1)), (((1, 2), (1, 2)),) * 2)
        self.assertEqual(ladder(3, (1, 1)), (((1, 2), (0, 1), (0, 1), (1, 2)),) * 4)

    def test_tuples_all_the_way_down(self):
        told = ladder(2, (1, 2))
        self.assertIs(type(told), tuple)
        self.assertTrue(all(type(row) is tuple and all(type(a) is tuple for a in row) for row in told))

    def test_wrong_inputs(self):
        for wrong in NO_COUNTS:
            self.raises(InvalidNumber, wrong, ladder, wrong, (1, 2))
            self.raises(InvalidNumber, wrong, ladder, wrong, (0, 1))
        for wrong in NO_RATIOS:
            self.raises(InvalidRatio, wrong, ladder, 2, wrong)
            self.raises(InvalidRatio, wrong, ladder, 0, wrong)


class ChanceTest(Raising, unittest.TestCase):
    def test_each_of_the_ladder(self):
        for n in range(6):
            for ratio in RATIOS:
                expected = table(ladder_table(n, F(*ratio)))
                for i in range(n + 1):
                    for r in range(n + 1):
                        self.assertEqual(chance(n, ratio, i, r), expected[i][r])
        self.assertEqual(chance(r=0, i=2, ratio=(1, 2), n=2), (1, 6))

    def test_wrong_inputs(self):
        for wrong in NO_COUNTS:
            self.raises(InvalidNumber, wrong, chance, wrong, (0, 1), 9, 9)
        for wrong in NO_RATIOS:
            self.raises(InvalidRatio, wrong, chance, 2, wrong, 9, 9)
        for wrong in (-1, 3, 10 ** 20):
            self.raises(InvalidIndex, wrong, chance, 2, (1, 2), wrong, 0)
            self.raises(InvalidIndex, wrong, chance, 2, (1, 2), 0, wrong)
            self.raises(InvalidIndex, wrong, chance, 2, (1, 2), wrong, -7)
        self.raises(InvalidIndex, 1, chance, 0, (1, 2), 0, 1)


class UnladderTest(Raising, unittest.TestCase):
    def test_the_product_from_either_side(self):
        for n in range(10):
            for ratio in RATIOS:
                if ratio == (1, 1) and n > 0:
                    continue
                told = unladder(n, ratio)
                one = [[int(i == r) for r in range(n + 1)] for i in range(n + 1)]
                self.assertEqual(multiplied(ladder_table(n, F(*ratio)), fractions(told)), one)
                self.assertEqual(multiplied(fractions(told), ladder_table(n, F(*ratio))), one)
                self.assertEqual(told, table(fractions(told)))
        self.assertEqual(unladder(ratio=(1, 2), n=1), unladder(1, (1, 2)))

    def test_n_zero_with_a_ratio_of_one(self):
        self.assertEqual(unladder(0, (1, 1)), (((1, 1),),))

    def test_wrong_inputs(self):
        for wrong in NO_COUNTS:
            self.raises(InvalidNumber, wrong, unladder, wrong, (1, 1))
        for wrong in NO_RATIOS:
            self.raises(InvalidRatio, wrong, unladder, 2, wrong)
            self.raises(InvalidRatio, wrong, unladder, 0, wrong)
        for n in range(1, 10):
            self.raises(InvalidRatio, (1, 1), unladder, n, (1, 1))


class WideTest(Raising, unittest.TestCase):
    def test_the_greatest_over_all_counts(self):
        rng = random.Random(13)
        for n in range(8):
            for ratio in RATIOS + [random_ratio(rng) for _ in range(3)]:
                rows = ladder_table(n, F(*ratio))
                for far in range(n + 4):
                    sums = [sum(x for r, x in enumerate(row) if abs(r - i) >= far) for i, row in enumerate(rows)]
                    self.assertEqual(wide(n, ratio, far), pair(max(sums)))
        self.assertEqual(wide(far=1, n=2, ratio=(1, 2)), (2, 3))

    def test_far_zero_and_beyond(self):
        for n in range(6):
            self.assertEqual(wide(n, (2, 5), 0), (1, 1))
            self.assertEqual(wide(n, (2, 5), n + 1), (0, 1))
            self.assertEqual(wide(n, (2, 5), 10 ** 20), (0, 1))

    def test_wrong_inputs(self):
        for wrong in NO_COUNTS:
            self.raises(InvalidNumber, wrong, wide, wrong, (0, 1), -1)
        for wrong in NO_RATIOS:
            self.raises(InvalidRatio, wrong, wide, 2, wrong, -1)
        for wrong in (-1, -10 ** 30):
            self.raises(InvalidNumber, wrong, wide, 2, (1, 2), wrong)
            self.raises(InvalidNumber, wrong, wide, 0, (1, 1), wrong)


class RatioForTest(Raising, unittest.TestCase):
    def test_one_by_the_factor(self):
        for factor in ((1, 1), (2, 1), (7, 3), (10 ** 300 + 1, 10 ** 300)):
            self.assertEqual(ratio_for(factor), (factor[1], factor[0]))
            self.assertEqual(ratio_for(factor=factor), (factor[1], factor[0]))

    def test_wrong_inputs(self):
        for wrong in ((1, 2), (0, 1), (-2, 1), (4, 2), (2, 0), (2, -1), (10 ** 300 - 1, 10 ** 300)):
            self.raises(InvalidNumber, wrong, ratio_for, wrong)


if __name__ == "__main__":
    unittest.main()
