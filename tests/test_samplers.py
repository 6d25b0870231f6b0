import random
import unittest
from itertools import product
from math import lcm

from exact import F, pair, random_row
from raising import Raising

from oneservesall.chances import draw, is_draw, mapped
from oneservesall.errors import InvalidBits, InvalidChances, InvalidNumber
from oneservesall.samplers import chances_within, drawn, mean_bits, sampler

THIRDS = ((0, (1, 3)), (1, (2, 3)))
SAMPLER = (2, (0, 1, 1))
ONE = (("x", (1, 1)),)
NO_DRAWS = [
    (),
    ((0, (1, 2)),),
    ((0, (1, 2)), (1, (1, 3))),
    ((1, (1, 3)), (0, (2, 3))),
    ((0, (1, 3)), (0, (2, 3))),
    ((0, (1, 3)), ("a", (2, 3))),
    ((0, (0, 1)), (1, (1, 1))),
    ((0, (-1, 2)), (1, (3, 2))),
    ((0, (2, 4)), (1, (1, 2))),
    ((0, (1, 0)), (1, (1, 2))),
]


def drawn_draw(rng, texts=False):
    row = [x for x in random_row(rng, rng.randint(1, 5), zeros=False)]
    things = sorted(rng.sample(range(-20, 20), len(row)))
    if texts:
        things = sorted("abcdefgh"[k:k + 3] for k in rng.sample(range(6), len(row)))
    return tuple((thing, pair(x)) for thing, x in zip(things, row))


def bottom(told):
    return lcm(*[x[1] for _, x in told])


def walked(told, bits):
    """What comes of bits by the document's words, bit by bit."""
    d = bottom(told)
    width = next(k for k in range(20) if 2 ** k >= d)
    things = [thing for thing, (x, y) in told for _ in range(x * d // y)]
    bits = list(bits)
    read = 0
    while len(bits) >= width:
        number, bits = sum(bit * 2 ** (width - 1 - k) for k, bit in enumerate(bits[:width])), bits[width:]
        read += width
        if number < d:
            return things[number], read
    return None


class SamplerTest(Raising, unittest.TestCase):
    def test_bits_and_table(self):
        rng = random.Random(161)
        for texts in (False, True):
            for _ in range(60):
                told = drawn_draw(rng, texts)
                self.assertTrue(is_draw(told))
                width, table = sampler(told)
                d = bottom(told)
                self.assertEqual(len(table), d)
                self.assertTrue(2 ** width >= d and (width == 0 or 2 ** (width - 1) < d))
                self.assertEqual(list(table), sorted(table))
                for thing, (x, y) in told:
                    self.assertEqual(F(table.count(thing), d), F(x, y))
                self.assertEqual(sampler(draw=told), (width, table))
                self.assertIs(type(table), tuple)

    def test_edges(self):
        self.assertEqual(sampler(ONE), (0, ("x",)))
        self.assertEqual(sampler(((-3, (1, 2)), (4, (1, 2)))), (1, (-3, 4)))
        self.assertEqual(sampler(((0, (1, 4)), (1, (3, 4)))), (2, (0, 1, 1, 1)))
        self.assertEqual(sampler(((0, (1, 2)), (1, (1, 3)), (2, (1, 6)))), (3, (0, 0, 0, 1, 1, 2)))
        self.assertEqual(sampler((("a", (1, 5)), ("b", (4, 5)))), (3, ("a", "b", "b", "b", "b")))
        for d, width in [(1023, 10), (1024, 10), (1025, 11), (4095, 12), (4096, 12)]:
            told = sampler(((7, (1, d)), (8, (d - 1, d))))
            self.assertEqual(told, (width, (7,) + (8,) * (d - 1)))

    def test_wrong_inputs(self):
        for wrong in NO_DRAWS:
            self.raises(InvalidChances, wrong, sampler, wrong)


class DrawnTest(Raising, unittest.TestCase):
    def test_all_rows_of_bits(self):
        rng = random.Random(162)
        tellings = [drawn_draw(rng, texts) for texts in (False, True) for _ in range(12)]
        for told in tellings + [THIRDS, ONE]:
            made = sampler(told)
            for many in range(10):
                for bits in product((0, 1), repeat=many):
                    self.assertEqual(drawn(made, bits), walked(told, bits))
        self.assertEqual(drawn(bits=(1, 1, 1, 0), sampler=SAMPLER), (1, 4))

    def test_each_thing_with_just_its_chance(self):
        # Of all rows of the bits of a round, as many come to a thing as its chance says.
        rng = random.Random(163)
        for _ in range(30):
            told = drawn_draw(rng)
            width, table = made = sampler(told)
            seen = [drawn(made, bits) for bits in product((0, 1), repeat=width)]
            self.assertEqual(len([s for s in seen if s is not None]), bottom(told))
            for thing, (x, y) in told:
                self.assertEqual(F(seen.count((thing, width)), bottom(told)), F(x, y))

    def test_bits_that_just_do_and_just_do_not_suffice(self):
        self.assertIsNone(drawn(SAMPLER, ()))
        self.assertIsNone(drawn(SAMPLER, (0,)))
        self.assertEqual(drawn(SAMPLER, (0, 0)), (0, 2))
        self.assertEqual(drawn(SAMPLER, (0, 1)), (1, 2))
        self.assertEqual(drawn(SAMPLER, (1, 0)), (1, 2))
        self.assertIsNone(drawn(SAMPLER, (1, 1)))
        self.assertIsNone(drawn(SAMPLER, (1, 1, 0)))
        self.assertEqual(drawn(SAMPLER, (1, 1, 0, 0)), (0, 4))
        self.assertEqual(drawn(SAMPLER, (0, 0, 1, 1)), (0, 2))
        self.assertIsNone(drawn(SAMPLER, (1,) * 4001))
        self.assertEqual(drawn(SAMPLER, (1,) * 4000 + (0, 1)), (1, 4002))

    def test_no_bits(self):
        self.assertEqual(drawn(sampler(ONE), ()), ("x", 0))
        self.assertEqual(drawn(sampler(ONE), (1, 0, 1)), ("x", 0))

    def test_wrong_inputs(self):
        for wrong in [(2,), (-1,), (0, 2), (0, 0, -1), (1, 1, 0, 0, 10 ** 30), (0, "1"), (1, 1, "")]:
            self.raises(InvalidBits, wrong, drawn, SAMPLER, wrong)
            self.raises(InvalidBits, wrong, drawn, sampler(ONE), wrong)


class MeanBitsTest(unittest.TestCase):
    def test_round_by_round(self):
        rng = random.Random(164)
        for _ in range(40):
            told = drawn_draw(rng)
            width, table = made = sampler(told)
            # The mean keeps to: it is a round, and as many bits more where the round comes to nothing.
            mean, missed = F(*mean_bits(made)), 1 - F(len(table), 2 ** width)
            self.assertEqual(mean, width + missed * mean)
            self.assertEqual(mean_bits(sampler=made), mean_bits(made))
            so_far = sum(width * missed ** k for k in range(60))
            self.assertTrue(so_far <= mean <= so_far + width * 2 * missed ** 60)

    def test_edges(self):
        self.assertEqual(mean_bits(sampler(ONE)), (0, 1))
        self.assertEqual(mean_bits((1, (0, 1))), (1, 1))
        self.assertEqual(mean_bits((2, (0, 1, 1, 1))), (2, 1))
        self.assertEqual(mean_bits(SAMPLER), (8, 3))
        self.assertEqual(mean_bits(sampler(((0, (1, 4096)), (1, (4095, 4096))))), (12, 1))
        self.assertEqual(mean_bits(sampler(((0, (1, 1025)), (1, (1024, 1025))))), (11 * 2048, 1025))


class ChancesWithinTest(Raising, unittest.TestCase):
    def test_over_all_rows_of_bits(self):
        rng = random.Random(165)
        tellings = [drawn_draw(rng, texts) for texts in (False, True) for _ in range(8)]
        for told in tellings + [THIRDS, ONE]:
            width, _ = made = sampler(told)
            for rounds in range(4):
                many = width * rounds
                if many > 10:
                    continue
                seen = {thing: 0 for thing, _ in told}
                for bits in product((0, 1), repeat=many):
                    found = drawn(made, bits)
                    if found is not None and rounds:
                        seen[found[0]] += 1
                expected = [(thing, pair(F(seen[thing], 2 ** many))) for thing, _ in told]
                self.assertEqual(chances_within(made, rounds), expected)
                self.assertEqual(chances_within(rounds=rounds, sampler=made), expected)

    def test_many_rounds(self):
        rng = random.Random(166)
        for _ in range(20):
            told = drawn_draw(rng)
            width, table = made = sampler(told)
            whole = 1 - (1 - F(len(table), 2 ** width)) ** 60
            self.assertEqual(chances_within(made, 60), [(thing, pair(F(*x) * whole)) for thing, x in told])
        big = sampler(((0, (1, 2049)), (1, (2048, 2049))))
        whole = 1 - (1 - F(2049, 4096)) ** 60
        self.assertEqual(chances_within(big, 60), [(0, pair(whole / 2049)), (1, pair(whole * 2048 / 2049))])

    def test_edges(self):
        self.assertEqual(chances_within(SAMPLER, 0), [(0, (0, 1)), (1, (0, 1))])
        self.assertEqual(chances_within(sampler(ONE), 0), [("x", (0, 1))])
        self.assertEqual(chances_within(sampler(ONE), 1), [("x", (1, 1))])
        self.assertEqual(chances_within((1, ("a", "b")), 1), [("a", (1, 2)), ("b", (1, 2))])
        self.assertEqual(chances_within((1, ("a", "b")), 7), [("a", (1, 2)), ("b", (1, 2))])
        self.assertEqual(chances_within(SAMPLER, 2), [(0, (5, 16)), (1, (5, 8))])

    def test_each_list_is_new(self):
        first = chances_within(SAMPLER, 1)
        first.append("more")
        self.assertEqual(chances_within(SAMPLER, 1), [(0, (1, 4)), (1, (1, 2))])

    def test_what_is_told_of_draws_that_were_made(self):
        rng = random.Random(167)
        made = mapped(draw([(k, pair(x)) for k, x in enumerate(random_row(rng, 6, zeros=False))]),
                      {k: k // 2 for k in range(6)})
        self.assertEqual(sum(F(*x) for _, x in chances_within(sampler(made), 60)),
                         1 - (1 - F(len(sampler(made)[1]), 2 ** sampler(made)[0])) ** 60)

    def test_wrong_inputs(self):
        for wrong in (-1, -10 ** 20):
            self.raises(InvalidNumber, wrong, chances_within, SAMPLER, wrong)


if __name__ == "__main__":
    unittest.main()
