import random
import unittest

from exact import (
    F, all_readings, cost_of, fractions, ladder_table, multiplied, pair, pairs, random_asker, random_ratio,
    random_row, random_scheme, read_as, table,
)
from raising import Raising

from oneservesall.errors import (
    InvalidAsker, InvalidNumber, InvalidPair, InvalidRatio, InvalidReading, InvalidScheme, NoReading,
)
from oneservesall.ladders import ladder
from oneservesall.readings import bend, best_reading, cost, mixed_of, read_ladder
from oneservesall.schemes import factor, has_factor, is_scheme, read_by
from oneservesall.sums import least_sum

PLAIN = (((0, 1), (1, 1)), ((0, 1), (1, 1)))
EVEN = (((1, 2), (1, 2)), PLAIN)
NO_RATIOS = [(0, 1), (-1, 2), (3, 2), (2, 4), (1, 0), (-1, -2)]
NO_ASKERS = [
    (),
    (EVEN[0],),
    (EVEN[0], PLAIN, PLAIN),
    (((1, 2), (1, 3)), PLAIN),
    (((3, 2), (-1, 2)), PLAIN),
    (((2, 4), (1, 2)), PLAIN),
    (((1, 1),), PLAIN),
    (((1, 3), (1, 3), (1, 3)), PLAIN),
    (((1, 1),), (((0, 1),),)),
    (EVEN[0], PLAIN[:1]),
    (EVEN[0], PLAIN + PLAIN[:1]),
    (EVEN[0], (PLAIN[0], ((0, 1),))),
    (EVEN[0], (PLAIN[0], ((0, 1), (1, 1), (2, 1)))),
    (EVEN[0], (((1, 1), (0, 1)), PLAIN[1])),
    (EVEN[0], (PLAIN[0], ((1, 2), (1, 3)))),
    (EVEN[0], (((-1, 1), (1, 1)), PLAIN[1])),
    (EVEN[0], (PLAIN[0], ((0, 1), (2, 2)))),
    (EVEN[0], (PLAIN[0], ((0, 1), (1, 0)))),
]
NO_SCHEMES = [(), ((),), (((1, 2),),), (((1, 2), (1, 2)), ((1, 1),)), (((3, 2), (-1, 2)),), (((2, 4), (1, 2)),)]


def bends(scheme, a):
    """All (i, r) where a scheme of fractions bends too much, by the document's words."""
    last = len(scheme) - 1
    for i in range(last + 1 if last else 0):
        for r in range(len(scheme[0])):
            x = [row[r] for row in scheme]
            if i == 0:
                left = x[0] - a * x[1]
            elif i == last:
                left = x[i] - a * x[i - 1]
            else:
                left = (1 + a * a) * x[i] - a * (x[i - 1] + x[i + 1])
            if left < 0:
                yield i, r


class ReadLadderTest(Raising, unittest.TestCase):
    def test_all_readings(self):
        for n in range(3):
            for ratio in [(1, 2), (4, 5), (1, 1)]:
                for reading in all_readings(n):
                    expected = table(read_as(ladder_table(n, F(*ratio)), reading))
                    self.assertEqual(read_ladder(n, ratio, reading), expected)
        self.assertEqual(read_ladder(reading=(1, 0), ratio=(1, 2), n=1), (((1, 3), (2, 3)), ((2, 3), (1, 3))))

    def test_answers_as_they_are(self):
        for n in range(10):
            self.assertEqual(read_ladder(n, (2, 3), tuple(range(n + 1))), ladder(n, (2, 3)))

    def test_wrong_inputs(self):
        for wrong in (-1, -7):
            self.raises(InvalidNumber, wrong, read_ladder, wrong, (0, 1), ())
        for wrong in NO_RATIOS:
            self.raises(InvalidRatio, wrong, read_ladder, 1, wrong, ())
        for wrong in [(), (0,), (0, 1, 1), (0, 2), (-1, 0), (0, 10 ** 20)]:
            self.raises(InvalidReading, wrong, read_ladder, 1, (1, 2), wrong)


class CostTest(Raising, unittest.TestCase):
    def test_against_the_library(self):
        rng = random.Random(51)
        for n in (0, 1, 2, 4, 9):
            for _ in range(6):
                scheme, asker = random_scheme(rng, n + 1, n + 1, True), random_asker(rng, n)
                expected = pair(cost_of(fractions(scheme), asker))
                self.assertEqual(cost(scheme, asker), expected)
                self.assertEqual(cost(asker=asker, scheme=scheme), expected)

    def test_a_loss_that_is_not_zero_at_no_distance(self):
        self.assertEqual(cost((((1, 1),),), (((1, 1),), (((7, 3),),))), (7, 3))

    def test_wrong_inputs(self):
        for wrong in NO_SCHEMES:
            self.raises(InvalidScheme, wrong, cost, wrong, ())
        for wrong in NO_ASKERS:
            self.raises(InvalidAsker, wrong, cost, ladder(1, (1, 2)), wrong)
        flat = (((1, 3), (1, 3), (1, 3)),) * 2
        self.raises(InvalidAsker, NO_ASKERS[7], cost, flat, NO_ASKERS[7])
        self.raises(InvalidPair, (2, 3), cost, flat, EVEN)
        self.raises(InvalidPair, (2, 1), cost, (((1, 1),),) * 2, EVEN)


class BestReadingTest(Raising, unittest.TestCase):
    def test_no_reading_costs_less(self):
        rng = random.Random(52)
        for n in (0, 1, 2, 3):
            for _ in range(5):
                ratio, asker = random_ratio(rng, one=True), random_asker(rng, n)
                rows = ladder_table(n, F(*ratio))
                least = min(cost_of(read_as(rows, reading), asker) for reading in all_readings(n))
                told = best_reading(n, ratio, asker)
                self.assertEqual(cost_of(read_as(rows, told), asker), least)
                self.assertEqual(cost(read_ladder(n, ratio, told), asker), pair(least))
                self.assertEqual(best_reading(asker=asker, ratio=ratio, n=n), told)

    def test_the_least_count_of_equal_sums(self):
        rng = random.Random(53)
        for n in range(6):
            for _ in range(8):
                ratio, (belief, loss) = random_ratio(rng, one=True), random_asker(rng, n)
                rows = ladder_table(n, F(*ratio))
                expected = []
                for r in range(n + 1):
                    sums = [sum(F(*belief[i]) * rows[i][r] * F(*loss[i][abs(i - j)]) for i in range(n + 1))
                            for j in range(n + 1)]
                    expected.append(sums.index(min(sums)))
                self.assertEqual(best_reading(n, ratio, (belief, loss)), tuple(expected))

    def test_equal_sums(self):
        for n in range(5):
            flat = table([[F(3)] * (n + 1)] * (n + 1))
            belief = pairs([F(1, n + 1)] * (n + 1))
            self.assertEqual(best_reading(n, (1, 2), (belief, flat)), (0,) * (n + 1))
        steps = table([[0, 1, 2]] * 3)
        self.assertEqual(best_reading(2, (1, 1), (pairs([F(1, 2), 0, F(1, 2)]), steps)), (0, 0, 0))
        self.assertEqual(best_reading(2, (1, 1), (pairs([0, 0, 1]), steps)), (2, 0, 2))
        self.assertEqual(best_reading(1, (1, 3), (pairs([F(1, 4), F(3, 4)]), PLAIN)), (0, 1))

    def test_one_serves_all(self):
        rng = random.Random(54)
        for n in (0, 1, 2, 3):
            for _ in range(4):
                ratio, asker = random_ratio(rng, one=True), random_asker(rng, n)
                told = least_sum((n + 1) ** 2, musts_of_factor(n, F(*ratio)), aim_of(asker))
                least = cost(read_ladder(n, ratio, best_reading(n, ratio, asker)), asker)
                self.assertEqual(told[:2], ("least", least))

    def test_wrong_inputs(self):
        for wrong in (-1, -7):
            self.raises(InvalidNumber, wrong, best_reading, wrong, (0, 1), ())
        for wrong in NO_RATIOS:
            self.raises(InvalidRatio, wrong, best_reading, 1, wrong, ())
        for wrong in NO_ASKERS:
            self.raises(InvalidAsker, wrong, best_reading, 1, (1, 2), wrong)
        self.raises(InvalidAsker, EVEN, best_reading, 0, (1, 2), EVEN)
        self.raises(InvalidAsker, EVEN, best_reading, 2, (1, 2), EVEN)


class BendTest(Raising, unittest.TestCase):
    def test_by_the_documents_words(self):
        rng = random.Random(55)
        found = 0
        for _ in range(150):
            scheme, ratio = random_scheme(rng, rng.randint(1, 5), rng.randint(1, 4), True), random_ratio(rng)
            expected = next(bends(fractions(scheme), F(*ratio)), None)
            found += expected is not None
            self.assertEqual(bend(scheme, ratio), expected)
            self.assertEqual(bend(ratio=ratio, scheme=scheme), expected)
        self.assertTrue(20 < found < 150)

    def test_each_place_can_be_the_first(self):
        # Chances at the very bound, then one of them less by next to nothing.
        a, little = F(1, 2), F(1, 10 ** 60)
        for i, column in [(0, [F(1, 6), F(1, 3), F(1, 3)]), (1, [F(1, 2), F(2, 5), F(1, 2)]),
                          (2, [F(1, 3), F(1, 3), F(1, 6)])]:
            rows = [[x, (1 - x) / 2, (1 - x) / 2] for x in column]
            self.assertIsNone(bend(table(rows), pair(a)))
            x = column[i] - little
            rows[i] = [x, (1 - x) / 2, (1 - x) / 2]
            self.assertEqual(bend(table(rows), pair(a)), (i, 0))
            turned_about = table([row[::-1] for row in rows])
            self.assertEqual(bend(turned_about, pair(a)), (i, 2))

    def test_a_factor_alone_is_not_enough(self):
        # Of factor 2, yet no reading of the ladder of 1/2: it bends too much in the middle.
        told = table([[F(1, 2), F(1, 2)], [F(1, 4), F(3, 4)], [F(1, 2), F(1, 2)]])
        self.assertTrue(has_factor(told, (2, 1)))
        self.assertEqual(bend(told, (1, 2)), (1, 0))

    def test_one_row(self):
        for told in [(((1, 1),),), (((0, 1), (1, 1)),), (((1, 2), (1, 2)),)]:
            for ratio in [(1, 2), (1, 1)]:
                self.assertIsNone(bend(told, ratio))

    def test_wrong_inputs(self):
        for function in (bend, mixed_of):
            for wrong in NO_SCHEMES:
                self.raises(InvalidScheme, wrong, function, wrong, (0, 1))
            for wrong in NO_RATIOS:
                self.raises(InvalidRatio, wrong, function, (((1, 1),),), wrong)
                self.raises(InvalidRatio, wrong, function, (((1, 1), (0, 1)), ((0, 1), (1, 1))), wrong)
            self.raises(InvalidRatio, (1, 1), function, (((1, 1),),) * 2, (1, 1))
            self.raises(InvalidRatio, (1, 1), function, ladder(3, (1, 2)), (1, 1))


class MixedOfTest(Raising, unittest.TestCase):
    def test_multiplied_back(self):
        rng = random.Random(56)
        for n in range(7):
            for _ in range(5):
                ratio = random_ratio(rng)
                mixed = random_scheme(rng, n + 1, rng.randint(1, 5), True)
                scheme = table(multiplied(ladder_table(n, F(*ratio)), fractions(mixed)))
                self.assertEqual(mixed_of(scheme, ratio), mixed)
                self.assertEqual(mixed_of(ratio=ratio, scheme=scheme), mixed)
                self.assertIsNone(bend(scheme, ratio))
                self.assertEqual(read_by(ladder(n, ratio), mixed_of(scheme, ratio)), scheme)

    def test_exactly_if_nothing_bends_too_much(self):
        rng = random.Random(57)
        for _ in range(80):
            scheme, ratio = random_scheme(rng, rng.randint(1, 4), rng.randint(1, 3), True), random_ratio(rng)
            expected = next(bends(fractions(scheme), F(*ratio)), None)
            if expected is None:
                told = mixed_of(scheme, ratio)
                self.assertTrue(is_scheme(told))
                self.assertEqual(len(told), len(scheme))
                self.assertEqual(read_by(ladder(len(scheme) - 1, ratio), told), scheme)
            else:
                self.raises(NoReading, expected, mixed_of, scheme, ratio)

    def test_ten_rows_and_ten_answers(self):
        rng = random.Random(58)
        mixed = table([random_row(rng, 10) for _ in range(10)])
        scheme = read_by(ladder(9, (3, 4)), mixed)
        self.assertEqual(mixed_of(scheme, (3, 4)), mixed)
        self.assertLessEqual(F(*factor(scheme)[0]), F(4, 3))
        self.assertEqual(mixed_of(ladder(9, (3, 4)), (3, 4)), table([[int(i == r) for r in range(10)]
                                                                      for i in range(10)]))

    def test_one_row(self):
        for ratio in [(1, 2), (1, 1)]:
            self.assertEqual(mixed_of((((1, 4), (3, 4)),), ratio), (((1, 4), (3, 4)),))

    def test_of_another_ladder(self):
        # A ladder of a lesser ratio tells more, and is made of none of a greater one.
        self.assertIsNone(bend(ladder(3, (2, 3)), (1, 2)))
        self.raises(NoReading, (0, 1), mixed_of, ladder(1, (1, 2)), (2, 3))
        self.raises(NoReading, (0, 1), mixed_of, (((1, 1), (0, 1)), ((0, 1), (1, 1))), (1, 10 ** 9))


def musts_of_factor(n, a):
    """What the chances of a scheme of the factor 1 / a keep, unknown i * (n + 1) + j."""
    many = n + 1

    def must(kind, constant, terms):
        return kind, (pair(constant), tuple(sorted((unknown, pair(x)) for unknown, x in terms)))

    found = [must("most", 0, [(k, -1)]) for k in range(many * many)]
    found += [must("is", -1, [(i * many + j, 1) for j in range(many)]) for i in range(many)]
    for i in range(n):
        for j in range(many):
            one, other = i * many + j, (i + 1) * many + j
            found += [must("most", 0, [(one, a), (other, -1)]), must("most", 0, [(other, a), (one, -1)])]
    return tuple(found)


def aim_of(asker):
    belief, loss = asker
    many = len(belief)
    terms = [(i * many + j, F(*belief[i]) * F(*loss[i][abs(i - j)])) for i in range(many) for j in range(many)]
    return (0, 1), tuple((unknown, pair(a)) for unknown, a in terms if a)


if __name__ == "__main__":
    unittest.main()
