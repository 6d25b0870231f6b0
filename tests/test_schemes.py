import random
import unittest

from exact import F, fractions, multiplied, pair, random_ratio, random_scheme, table
from raising import Raising

from oneservesall.errors import InvalidNumber, InvalidPair, InvalidScheme, NoFactor
from oneservesall.ladders import ladder
from oneservesall.schemes import asked_both, blended, factor, has_factor, is_scheme, read_by, size, turned

PLAIN = (((2, 3), (1, 3)), ((1, 3), (2, 3)))
SURE = (((1, 1), (0, 1)), ((0, 1), (1, 1)))
NO_SCHEMES = [
    (),
    ((),),
    ((), ()),
    (((1, 1),), ()),
    (((1, 2),),),
    (((1, 2), (1, 3)),),
    (((1, 2), (1, 1)),),
    (((3, 2), (-1, 2)),),
    (((2, 4), (1, 2)),),
    (((1, 2), (1, 0)),),
    (((1, 2), (-1, -2)),),
    (((1, 1),), ((1, 2), (1, 2))),
    (((1, 2), (1, 2)), ((1, 1),)),
    (((1, 2), (1, 2)), ((1, 2), (1, 3))),
]
HUGE = 10 ** 400


def ratios(scheme):
    """All (ratio, place), the ratio None where it has none."""
    told = fractions(scheme)
    for i in range(len(told)):
        for j in (i - 1, i + 1):
            if 0 <= j < len(told):
                for r, x in enumerate(told[i]):
                    if x > 0:
                        yield (x / told[j][r] if told[j][r] else None), (i, j, r)


class IsSchemeTest(Raising, unittest.TestCase):
    def test_schemes(self):
        for told in [PLAIN, SURE, (((1, 1),),), (((1, 1),),) * 10, (((0, 1), (1, 1)),), ladder(9, (1, 3)),
                     (((1, HUGE), (HUGE - 1, HUGE)),)]:
            self.assertIs(is_scheme(told), True, told)
            self.assertIs(is_scheme(told=told), True)

    def test_others(self):
        for told in NO_SCHEMES:
            self.assertIs(is_scheme(told), False, told)

    def test_each_function_takes_schemes_alone(self):
        for wrong in NO_SCHEMES:
            for function in (size, factor, turned):
                self.raises(InvalidScheme, wrong, function, wrong)
            self.raises(InvalidScheme, wrong, has_factor, wrong, (0, 1))
            for function in (read_by, asked_both):
                self.raises(InvalidScheme, wrong, function, wrong, ())
                self.raises(InvalidScheme, wrong, function, ladder(4, (1, 2)), wrong)
            self.raises(InvalidScheme, wrong, blended, wrong, (), (2, 1))
            self.raises(InvalidScheme, wrong, blended, ladder(4, (1, 2)), wrong, (2, 1))


class SizeTest(unittest.TestCase):
    def test_rows_and_answers(self):
        rng = random.Random(31)
        for rows in (1, 2, 10):
            for answers in (1, 3, 10):
                told = random_scheme(rng, rows, answers, zeros=True)
                self.assertEqual(size(told), (rows, answers))
                self.assertEqual(size(scheme=told), (rows, answers))


class FactorTest(Raising, unittest.TestCase):
    def test_the_least_and_the_first_place(self):
        rng = random.Random(32)
        for _ in range(120):
            told = random_scheme(rng, rng.randint(2, 5), rng.randint(1, 4))
            found = list(ratios(told))
            greatest = max(ratio for ratio, _ in found)
            place = min(place for ratio, place in found if ratio == greatest)
            self.assertEqual(factor(told), (pair(greatest), place))
            self.assertEqual(factor(scheme=told), (pair(greatest), place))

    def test_it_is_a_factor_and_none_is_less(self):
        rng = random.Random(33)
        for _ in range(40):
            told = random_scheme(rng, rng.randint(1, 4), rng.randint(1, 4))
            least = F(*factor(told)[0])
            self.assertTrue(has_factor(told, pair(least)))
            self.assertTrue(has_factor(told, pair(least + F(1, HUGE))))
            if least > 1:
                self.assertFalse(has_factor(told, pair(max(F(1), least - F(1, HUGE)))))

    def test_edges(self):
        self.assertEqual(factor((((1, 2), (1, 2)),)), ((1, 1), (0, 0, 0)))
        self.assertEqual(factor((((0, 1), (1, 1)),)), ((1, 1), (0, 0, 0)))
        self.assertEqual(factor((((1, 1),),) * 3), ((1, 1), (0, 1, 0)))
        self.assertEqual(factor((((0, 1), (1, 2), (1, 2)),) * 2), ((1, 1), (0, 1, 1)))
        self.assertEqual(factor((((1, 3), (2, 3)), ((2, 3), (1, 3)))), ((2, 1), (0, 1, 1)))
        self.assertEqual(factor((((1, 3), (2, 3)), ((1, 2), (1, 2)))), ((3, 2), (1, 0, 0)))
        self.assertEqual(factor((((1, HUGE), (HUGE - 1, HUGE)), ((1, 2), (1, 2)))), ((HUGE // 2, 1), (1, 0, 0)))
        for n in range(1, 10):
            self.assertEqual(factor(ladder(n, (2, 5)))[0], (5, 2))
            self.assertEqual(factor(ladder(n, (1, 1)))[0], (1, 1))

    def test_an_answer_in_one_of_two_neighbours_alone(self):
        self.raises(NoFactor, (0, 1, 0), factor, SURE)
        self.raises(NoFactor, (0, 1, 1), factor, (((1, 2), (1, 2)), ((1, 1), (0, 1))))
        self.raises(NoFactor, (1, 0, 0), factor, (((0, 1), (1, 1)), ((1, 2), (1, 2))))
        self.raises(NoFactor, (1, 2, 1), factor, (((1, 2), (1, 2)), ((1, 2), (1, 2)), ((1, 1), (0, 1))))
        self.raises(NoFactor, (2, 1, 0), factor, (((0, 1), (1, 1)), ((0, 1), (1, 1)), ((1, 3), (2, 3))))
        self.raises(NoFactor, (1, 0, 1), factor, (((1, 1), (0, 1)), ((1, 2), (1, 2)), ((0, 1), (1, 1))))
        rng = random.Random(34)
        for _ in range(80):
            told = random_scheme(rng, rng.randint(2, 4), rng.randint(2, 4), zeros=True)
            missing = [place for ratio, place in ratios(told) if ratio is None]
            if missing:
                self.raises(NoFactor, min(missing), factor, told)

    def test_counts_that_are_no_neighbours_do_not_matter(self):
        told = table([[F(1, 2), F(1, 2)], [F(1, 4), F(3, 4)], [F(1, 8), F(7, 8)]])
        self.assertEqual(factor(told), ((2, 1), (0, 1, 0)))


class HasFactorTest(Raising, unittest.TestCase):
    def test_against_the_library(self):
        rng = random.Random(35)
        for _ in range(120):
            told = random_scheme(rng, rng.randint(1, 4), rng.randint(1, 3), zeros=rng.random() < 0.3)
            number = pair(1 + F(rng.randint(0, 12), rng.randint(1, 4)))
            expected = all(ratio is not None and ratio <= F(*number) for ratio, _ in ratios(told))
            self.assertIs(has_factor(told, number), expected)
            self.assertIs(has_factor(number=number, scheme=told), expected)

    def test_an_answer_in_one_of_two_neighbours_alone(self):
        self.assertIs(has_factor(SURE, (10 ** 90, 1)), False)
        self.assertIs(has_factor((((0, 1), (1, 1)),) * 2, (1, 1)), True)

    def test_wrong_inputs(self):
        for wrong in [(1, 2), (0, 1), (-2, 1), (4, 2), (2, 0), (-2, -1), (HUGE - 1, HUGE)]:
            self.raises(InvalidNumber, wrong, has_factor, PLAIN, wrong)
            self.raises(InvalidNumber, wrong, has_factor, (((1, 1),),), wrong)


class ReadByTest(Raising, unittest.TestCase):
    def test_against_the_library(self):
        rng = random.Random(36)
        for rows, answers, told in [(1, 1, 1), (1, 3, 2), (3, 1, 4), (2, 4, 3), (4, 4, 4), (10, 10, 10)]:
            scheme, mixed = random_scheme(rng, rows, answers, True), random_scheme(rng, answers, told, True)
            expected = table(multiplied(fractions(scheme), fractions(mixed)))
            self.assertEqual(read_by(scheme, mixed), expected)
            self.assertEqual(read_by(mixed=mixed, scheme=scheme), expected)

    def test_no_greater_factor(self):
        rng = random.Random(37)
        for _ in range(40):
            answers = rng.randint(1, 4)
            scheme = random_scheme(rng, rng.randint(1, 4), answers)
            made = read_by(scheme, random_scheme(rng, answers, rng.randint(1, 4), True))
            self.assertTrue(has_factor(made, factor(scheme)[0]))
            self.assertLessEqual(F(*factor(made)[0]), F(*factor(scheme)[0]))

    def test_sizes_that_do_not_fit(self):
        self.raises(InvalidPair, (2, 1), read_by, PLAIN, (((1, 2), (1, 2)),))
        self.raises(InvalidPair, (2, 3), read_by, PLAIN, ladder(2, (1, 2)))
        self.raises(InvalidPair, (3, 2), read_by, ladder(2, (1, 2)), PLAIN)


class AskedBothTest(Raising, unittest.TestCase):
    def test_answers_in_the_order_of_the_one_and_then_the_other(self):
        rng = random.Random(38)
        for rows, r_many, s_many in [(1, 1, 1), (2, 2, 3), (3, 3, 2), (10, 8, 8), (4, 1, 5)]:
            one, other = random_scheme(rng, rows, r_many, True), random_scheme(rng, rows, s_many, True)
            told = asked_both(one, other)
            self.assertEqual(told, asked_both(other=other, one=one))
            self.assertEqual(size(told), (rows, r_many * s_many))
            for i in range(rows):
                for r in range(r_many):
                    for s in range(s_many):
                        self.assertEqual(told[i][r * s_many + s], pair(F(*one[i][r]) * F(*other[i][s])))

    def test_sixty_four_answers(self):
        told = ladder(7, (1, 2))
        twice = asked_both(told, told)
        self.assertEqual(size(twice), (8, 64))
        self.assertIs(is_scheme(twice), True)
        self.assertEqual(factor(twice), ((4, 1), (0, 1, 0)))
        self.assertIs(has_factor(twice, (4, 1)), True)
        self.assertIs(has_factor(twice, (399, 100)), False)

    def test_the_product_is_a_factor(self):
        rng = random.Random(39)
        for _ in range(40):
            rows = rng.randint(1, 4)
            one, other = random_scheme(rng, rows, rng.randint(1, 3)), random_scheme(rng, rows, rng.randint(1, 3))
            product = F(*factor(one)[0]) * F(*factor(other)[0])
            self.assertIs(has_factor(asked_both(one, other), pair(product)), True)

    def test_unlike_many_rows(self):
        self.raises(InvalidPair, (2, 3), asked_both, PLAIN, ladder(2, (1, 2)))
        self.raises(InvalidPair, (2, 1), asked_both, PLAIN, (((1, 1),),))


class BlendedTest(Raising, unittest.TestCase):
    def test_against_the_library(self):
        rng = random.Random(40)
        for _ in range(40):
            rows, answers = rng.randint(1, 4), rng.randint(1, 4)
            one, other = random_scheme(rng, rows, answers, True), random_scheme(rng, rows, answers, True)
            chance = random_ratio(rng)
            a = F(*chance)
            expected = table(
                [[a * x + (1 - a) * y for x, y in zip(row, beside)]
                 for row, beside in zip(fractions(one), fractions(other))]
            )
            self.assertEqual(blended(one, other, chance), expected)
            self.assertEqual(blended(chance=chance, other=other, one=one), expected)

    def test_the_ends(self):
        self.assertEqual(blended(PLAIN, SURE, (1, 1)), PLAIN)
        self.assertEqual(blended(PLAIN, SURE, (0, 1)), SURE)

    def test_wrong_inputs(self):
        two_by_three = (((1, 3), (1, 3), (1, 3)),) * 2
        self.raises(InvalidPair, ((2, 2), (2, 3)), blended, PLAIN, two_by_three, (2, 1))
        self.raises(InvalidPair, ((2, 3), (2, 2)), blended, two_by_three, PLAIN, (1, 2))
        self.raises(InvalidPair, ((2, 2), (3, 3)), blended, PLAIN, ladder(2, (1, 2)), (1, 2))
        for wrong in [(-1, 2), (3, 2), (2, 4), (1, 0), (-1, -2), (HUGE + 1, HUGE)]:
            self.raises(InvalidNumber, wrong, blended, PLAIN, SURE, wrong)


class TurnedTest(unittest.TestCase):
    def test_last_to_first(self):
        rng = random.Random(41)
        for rows in (1, 2, 5):
            told = random_scheme(rng, rows, 3)
            self.assertEqual(turned(told), tuple(reversed(told)))
            self.assertEqual(turned(scheme=told), tuple(reversed(told)))
        self.assertEqual(turned(PLAIN), (PLAIN[1], PLAIN[0]))


if __name__ == "__main__":
    unittest.main()
