import copy
import operator
import random
import unittest

from exact import F, pair
from raising import Raising

from oneservesall.errors import DividedByZero, InvalidNumber
from oneservesall.numbers import (
    below, by, greatest, is_number, least, minus, number, plus, power, times, total,
)

NO_NUMBERS = [(2, 4), (0, 2), (1, 0), (0, 0), (1, -2), (-1, -2), (0, -1), (-3, 6), (10 ** 400, 10 ** 400)]
HUGE = (10 ** 900 + 1, 10 ** 900)


class IsNumberTest(unittest.TestCase):
    def test_lowest_terms_with_a_bottom_above_zero(self):
        for told in [(0, 1), (1, 1), (-1, 1), (-7, 3), (3, 7), (10 ** 500, 1), HUGE, (-1, 10 ** 500)]:
            self.assertIs(is_number(told), True, told)

    def test_others_are_none(self):
        for told in NO_NUMBERS:
            self.assertIs(is_number(told), False, told)

    def test_against_the_library(self):
        for top in range(-12, 13):
            for bottom in range(-12, 13):
                expected = bottom > 0 and pair(F(top, bottom)) == (top, bottom)
                self.assertIs(is_number((top, bottom)), expected)
                self.assertIs(is_number(told=(top, bottom)), expected)


class ReckoningTest(Raising, unittest.TestCase):
    def setUp(self):
        rng = random.Random(11)
        self.some = [pair(F(rng.randint(-30, 30), rng.randint(1, 30))) for _ in range(40)]
        self.some += [(0, 1), (1, 1), (-1, 1), HUGE, (-HUGE[0], HUGE[1]), (1, 10 ** 700), (10 ** 700, 3)]

    def test_number(self):
        self.assertEqual(number(6, 4), (3, 2))
        self.assertEqual(number(6, -4), (-3, 2))
        self.assertEqual(number(-6, -4), (3, 2))
        self.assertEqual(number(0, -9), (0, 1))
        self.assertEqual(number(top=-6, bottom=3), (-2, 1))
        self.assertEqual(number(2 * 10 ** 600, 4 * 10 ** 600), (1, 2))
        for top in range(-9, 10):
            for bottom in [b for b in range(-9, 10) if b]:
                self.assertEqual(number(top, bottom), pair(F(top, bottom)))

    def test_number_divided_by_zero(self):
        for top in (0, 1, -5, 10 ** 400):
            self.raises(DividedByZero, top, number, top, 0)

    def test_two_numbers(self):
        signs = {plus: operator.add, minus: operator.sub, times: operator.mul, by: operator.truediv}
        for function, sign in signs.items():
            for a in self.some:
                for b in self.some:
                    if function is by and b == (0, 1):
                        continue
                    expected = pair(sign(F(*a), F(*b)))
                    self.assertEqual(function(a, b), expected)
                    self.assertIs(type(function(a, b)), tuple)
        self.assertEqual(minus(b=(1, 3), a=(1, 2)), (1, 6))
        self.assertEqual(plus(b=(1, 3), a=(1, 2)), (5, 6))
        self.assertEqual(times(b=(1, 3), a=(1, 2)), (1, 6))
        self.assertEqual(by(b=(1, 3), a=(1, 2)), (3, 2))

    def test_by_zero_has_what_is_to_be_divided(self):
        for a in ((0, 1), (3, 2), (-1, 7)):
            self.raises(DividedByZero, a, by, a, (0, 1))

    def test_power(self):
        for a in self.some:
            for n in (0, 1, 2, 3, 7):
                self.assertEqual(power(a, n), pair(F(*a) ** n))
        self.assertEqual(power((-2, 3), 40), (2 ** 40, 3 ** 40))
        self.assertEqual(power(n=3, a=(-2, 3)), (-8, 27))

    def test_powers_of_zero_and_one(self):
        self.assertEqual(power((0, 1), 0), (1, 1))
        self.assertEqual(power((0, 1), 40), (0, 1))
        self.assertEqual(power((1, 1), 40), (1, 1))
        self.assertEqual(power((-1, 1), 39), (-1, 1))

    def test_power_below_zero(self):
        self.raises(InvalidNumber, -1, power, (1, 2), -1)
        self.raises(InvalidNumber, -40, power, (0, 1), -40)

    def test_power_looks_at_its_number_first(self):
        self.raises(InvalidNumber, (2, 4), power, (2, 4), -1)

    def test_below(self):
        for a in self.some:
            for b in self.some:
                self.assertIs(below(a, b), F(*a) < F(*b))
        self.assertIs(below(b=(1, 2), a=(1, 3)), True)

    def test_the_first_that_is_no_number(self):
        for function in (plus, minus, times, by, below):
            for wrong in NO_NUMBERS:
                self.raises(InvalidNumber, wrong, function, wrong, (1, 2))
                self.raises(InvalidNumber, wrong, function, (1, 2), wrong)
                self.raises(InvalidNumber, wrong, function, wrong, (3, 6))
                self.raises(InvalidNumber, wrong, function, a=wrong, b=(3, 6))
        self.raises(InvalidNumber, (4, 2), by, (4, 2), (0, 1))

    def test_power_of_no_number(self):
        for wrong in NO_NUMBERS:
            self.raises(InvalidNumber, wrong, power, wrong, 2)


class RowsTest(Raising, unittest.TestCase):
    def test_least_greatest_total(self):
        rng = random.Random(12)
        for many in range(1, 9):
            row = [pair(F(rng.randint(-9, 9), rng.randint(1, 9))) for _ in range(many)]
            for numbers in (row, tuple(row)):
                before = copy.deepcopy(numbers)
                self.assertEqual(least(numbers), pair(min(F(*a) for a in row)))
                self.assertEqual(greatest(numbers), pair(max(F(*a) for a in row)))
                self.assertEqual(total(numbers), pair(sum(F(*a) for a in row)))
                self.assertEqual(least(numbers=numbers), least(numbers))
                self.assertEqual(greatest(numbers=numbers), greatest(numbers))
                self.assertEqual(total(numbers=numbers), total(numbers))
                self.assertEqual(numbers, before)

    def test_tops_alone_do_not_tell(self):
        self.assertEqual(least([(1, 2), (2, 5), (3, 7)]), (2, 5))
        self.assertEqual(greatest([(-1, 2), (-2, 5), (-3, 7)]), (-2, 5))
        self.assertEqual(greatest([(1, 2), HUGE, (1, 1)]), HUGE)

    def test_of_none(self):
        for nothing in ([], ()):
            self.raises(InvalidNumber, nothing, least, nothing)
            self.raises(InvalidNumber, nothing, greatest, nothing)
            self.assertEqual(total(nothing), (0, 1))

    def test_of_one(self):
        for function in (least, greatest, total):
            self.assertEqual(function([(-3, 7)]), (-3, 7))
            self.assertEqual(function(((-3, 7),)), (-3, 7))

    def test_the_first_that_is_none(self):
        for function in (least, greatest, total):
            for wrong in NO_NUMBERS:
                self.raises(InvalidNumber, wrong, function, [wrong])
                self.raises(InvalidNumber, wrong, function, ((1, 2), wrong, (3, 6)))
                self.raises(InvalidNumber, wrong, function, [(0, 1), (1, 1), wrong])


if __name__ == "__main__":
    unittest.main()
