import copy
import random
import unittest

from exact import F, pair, random_row
from raising import Raising

from oneservesall.chances import both, chance_of, draw, is_draw, mapped, mean, mixed, ratio_of
from oneservesall.errors import InvalidChances, InvalidIndex, InvalidNumber, InvalidPair

COIN = ((0, (1, 2)), (1, (1, 2)))
WORDS = (("a", (1, 6)), ("ab", (1, 3)), ("b", (1, 2)))
NO_DRAWS = [
    (),
    ((0, (1, 2)),),
    ((0, (1, 2)), (1, (1, 3))),
    ((0, (1, 2)), (1, (1, 2)), (2, (1, 2))),
    ((1, (1, 2)), (0, (1, 2))),
    ((0, (1, 2)), (0, (1, 2))),
    ((0, (0, 1)), (1, (1, 1))),
    ((0, (3, 2)), (1, (-1, 2))),
    ((0, (2, 4)), (1, (1, 2))),
    ((0, (1, 2)), (1, (-1, -2))),
    ((0, (1, 2)), (1, (1, 0))),
    (("b", (1, 2)), ("a", (1, 2))),
    (("a", (1, 2)), ("a", (1, 2))),
    ((0, (1, 2)), ("a", (1, 2))),
    (("a", (1, 2)), (0, (1, 2))),
]
NO_CHANCES = [(-1, 2), (2, 4), (1, 0), (1, -2), (0, 2), (-1, 10 ** 400)]
TINY = (1, 10 ** 500)
NEARLY = (10 ** 500 - 1, 10 ** 500)


def random_draw(rng, things):
    while True:
        row = [(thing, a) for thing, a in zip(things, random_row(rng, len(things)))]
        if all(a for _, a in row):
            return tuple((thing, pair(a)) for thing, a in sorted(row))


class IsDrawTest(unittest.TestCase):
    def test_draws(self):
        for told in [COIN, WORDS, ((5, (1, 1)),), (("", (1, 1)),), ((-3, TINY), (-2, NEARLY)),
                     ((-10 ** 400, (1, 3)), (0, (1, 3)), (10 ** 400, (1, 3)))]:
            self.assertIs(is_draw(told), True, told)
            self.assertIs(is_draw(told=told), True)

    def test_others(self):
        for told in NO_DRAWS:
            self.assertIs(is_draw(told), False, told)


class DrawTest(Raising, unittest.TestCase):
    def test_things_many_times(self):
        rng = random.Random(21)
        for _ in range(60):
            many = rng.randint(1, 8)
            row = random_row(rng, many)
            things = [rng.randint(-3, 3) for _ in range(many)]
            rows = [(thing, pair(a)) for thing, a in zip(things, row)]
            sums = {thing: sum(a for x, a in zip(things, row) if x == thing) for thing in things}
            before = copy.deepcopy(rows)
            self.assertEqual(draw(rows), tuple((x, pair(sums[x])) for x in sorted(sums) if sums[x]))
            self.assertEqual(rows, before)

    def test_edges(self):
        self.assertEqual(draw([("b", (1, 2)), ("a", (0, 1)), ("b", (1, 2)), ("c", (0, 1))]), (("b", (1, 1)),))
        self.assertEqual(draw(rows=[("b", (1, 3)), ("a", (2, 3))]), (("a", (2, 3)), ("b", (1, 3))))
        self.assertEqual(draw([(10, (1, 2)), (9, (1, 2))]), ((9, (1, 2)), (10, (1, 2))))
        self.assertEqual(draw([("10", (1, 2)), ("9", (1, 2))]), (("10", (1, 2)), ("9", (1, 2))))
        self.assertEqual(draw([(1, TINY), (2, NEARLY), (1, (0, 1))]), ((1, TINY), (2, NEARLY)))

    def test_wrong_chances(self):
        for wrong in NO_CHANCES:
            self.raises(InvalidNumber, wrong, draw, [(0, wrong)])
            self.raises(InvalidNumber, wrong, draw, [(0, (1, 2)), (1, wrong), (2, (3, 6))])

    def test_wrong_sums(self):
        self.raises(InvalidChances, (0, 1), draw, [])
        self.raises(InvalidChances, (5, 6), draw, [(0, (1, 2)), (1, (1, 3))])
        self.raises(InvalidChances, (3, 2), draw, [(0, (1, 2)), (0, (1, 1))])
        self.raises(InvalidChances, NEARLY, draw, [(0, NEARLY)])


class MixedTest(Raising, unittest.TestCase):
    def test_against_the_library(self):
        rng = random.Random(22)
        for _ in range(40):
            many = rng.randint(1, 4)
            weights = random_row(rng, many)
            parts = [random_draw(rng, rng.sample(range(-4, 5), rng.randint(1, 4))) for _ in range(many)]
            draws = [(pair(a), part) for a, part in zip(weights, parts)]
            sums = {}
            for a, part in zip(weights, parts):
                for thing, b in part:
                    sums[thing] = sums.get(thing, 0) + a * F(*b)
            before = copy.deepcopy(draws)
            self.assertEqual(mixed(draws), tuple((x, pair(sums[x])) for x in sorted(sums) if sums[x]))
            self.assertEqual(mixed(draws=draws), mixed(draws))
            self.assertEqual(draws, before)

    def test_a_chance_of_zero(self):
        self.assertEqual(mixed([((0, 1), COIN), ((1, 1), ((7, (1, 1)),))]), ((7, (1, 1)),))

    def test_wrong_inputs(self):
        for wrong in NO_CHANCES:
            self.raises(InvalidNumber, wrong, mixed, [((1, 2), NO_DRAWS[0]), (wrong, COIN)])
        for wrong in NO_DRAWS:
            self.raises(InvalidChances, wrong, mixed, [((1, 3), COIN), ((1, 3), wrong), ((1, 3), ())])
            self.raises(InvalidChances, wrong, mixed, [((1, 3), wrong)])
        self.raises(InvalidChances, (0, 1), mixed, [])
        self.raises(InvalidChances, (2, 3), mixed, [((1, 3), COIN), ((1, 3), COIN)])


class MappedTest(Raising, unittest.TestCase):
    def test_ordinary(self):
        self.assertEqual(mapped(WORDS, {"a": 5, "ab": 2, "b": 5, "c": 1}), ((2, (1, 3)), (5, (2, 3))))
        self.assertEqual(mapped(draw=COIN, table={1: "x", 0: "y"}), (("x", (1, 2)), ("y", (1, 2))))
        self.assertEqual(mapped(COIN, {1: 0, 0: 1}), COIN)

    def test_the_dictionary_stays(self):
        told = {0: 4, 1: 3}
        mapped(COIN, told)
        self.assertEqual(list(told.items()), [(0, 4), (1, 3)])

    def test_wrong_inputs(self):
        for wrong in NO_DRAWS:
            self.raises(InvalidChances, wrong, mapped, wrong, {})
        self.raises(InvalidIndex, 0, mapped, COIN, {})
        self.raises(InvalidIndex, 1, mapped, COIN, {0: 1})
        self.raises(InvalidIndex, "ab", mapped, WORDS, {"a": 1})


class BothTest(Raising, unittest.TestCase):
    def test_ascending_with_products(self):
        rng = random.Random(23)
        for _ in range(20):
            one = random_draw(rng, rng.sample(range(-4, 5), rng.randint(1, 4)))
            other = random_draw(rng, rng.sample(range(-4, 5), rng.randint(1, 4)))
            expected = sorted(((x, y), pair(F(*a) * F(*b))) for x, a in one for y, b in other)
            self.assertEqual(both(one, other), tuple(expected))
            self.assertEqual(both(other=other, one=one), tuple(expected))
        self.assertEqual(both(WORDS, ((("x", (1, 1)),))), tuple(((x, "x"), a) for x, a in WORDS))

    def test_wrong_inputs(self):
        for wrong in NO_DRAWS:
            self.raises(InvalidChances, wrong, both, wrong, ((0, (9, 9)),))
            self.raises(InvalidChances, wrong, both, COIN, wrong)


class ChanceOfTest(Raising, unittest.TestCase):
    def test_ordinary(self):
        self.assertEqual([chance_of(WORDS, thing) for thing in ("a", "ab", "b", "c", "")],
                         [(1, 6), (1, 3), (1, 2), (0, 1), (0, 1)])
        self.assertEqual([chance_of(thing=thing, draw=COIN) for thing in (-1, 0, 1, 2)],
                         [(0, 1), (1, 2), (1, 2), (0, 1)])

    def test_wrong_inputs(self):
        for wrong in NO_DRAWS:
            self.raises(InvalidChances, wrong, chance_of, wrong, 0)


class MeanTest(Raising, unittest.TestCase):
    def test_ordinary(self):
        rng = random.Random(24)
        for _ in range(20):
            told = random_draw(rng, rng.sample(range(-9, 10), rng.randint(1, 5)))
            self.assertEqual(mean(told), pair(sum(thing * F(*a) for thing, a in told)))
            self.assertEqual(mean(draw=told), mean(told))
        self.assertEqual(mean(((-7, (1, 1)),)), (-7, 1))
        self.assertEqual(mean(((-1, (1, 2)), (1, (1, 2)))), (0, 1))

    def test_wrong_inputs(self):
        for wrong in NO_DRAWS:
            self.raises(InvalidChances, wrong, mean, wrong)
        self.raises(InvalidPair, WORDS, mean, WORDS)
        self.raises(InvalidPair, (("1", (1, 1)),), mean, (("1", (1, 1)),))


class RatioOfTest(Raising, unittest.TestCase):
    def test_against_the_library(self):
        rng = random.Random(25)
        for _ in range(60):
            things = sorted(rng.sample(range(-9, 10), rng.randint(1, 5)))
            one, other = random_draw(rng, things), random_draw(rng, things)
            ratios = [max(F(*a) / F(*b), F(*b) / F(*a)) for (_, a), (_, b) in zip(one, other)]
            expected = (pair(max(ratios)), things[ratios.index(max(ratios))])
            self.assertEqual(ratio_of(one, other), expected)
            self.assertEqual(ratio_of(other=one, one=other), expected)

    def test_the_first_of_equal_ratios(self):
        self.assertEqual(ratio_of(COIN, COIN), ((1, 1), 0))
        one = (("a", (1, 6)), ("b", (1, 3)), ("c", (1, 2)))
        other = (("a", (1, 6)), ("b", (1, 2)), ("c", (1, 3)))
        self.assertEqual(ratio_of(one, other), ((3, 2), "b"))

    def test_a_thing_in_one_alone(self):
        self.assertIsNone(ratio_of(COIN, ((0, (1, 1)),)))
        self.assertIsNone(ratio_of(((1, (1, 1)),), COIN))
        self.assertIsNone(ratio_of(COIN, ((0, (1, 2)), (2, (1, 2)))))
        self.assertIsNone(ratio_of(WORDS, (("a", (1, 6)), ("aa", (1, 3)), ("b", (1, 2)))))

    def test_wrong_inputs(self):
        for wrong in NO_DRAWS:
            self.raises(InvalidChances, wrong, ratio_of, wrong, ((0, (9, 9)),))
            self.raises(InvalidChances, wrong, ratio_of, COIN, wrong)


if __name__ == "__main__":
    unittest.main()
