import random
import unittest

from exact import (
    F, LONG_RATIOS, cost_of, fractions, ladder_table, least_ladder_cost, long_asker, losses_of, moved_scheme,
    multiplied, odd_beliefs, odd_losses, pair, pairs, random_asker, random_ratio, random_row, read_as, table,
)
from raising import Raising
from test_readings import EVEN, NO_ASKERS, NO_RATIOS, PLAIN

from oneservesall.best import aim_of, best, fault, is_shown, least_cost, musts_of, shown
from oneservesall.errors import InvalidAsker, InvalidNumber, InvalidPaper, InvalidRatio
from oneservesall.ladders import ladder
from oneservesall.odds import behind
from oneservesall.readings import best_reading
from oneservesall.schemes import factor, has_factor
from oneservesall.steady import steady
from oneservesall.sums import least_sum, shows

SURE = (((9, 10), (1, 10)), PLAIN)
PAPER = (((1, 6), (1, 6)), (((1, 3), (0, 1)),), (((0, 1), (1, 3)),))
# No asker of two counts, but one of one count.
ONE_COUNT = (((1, 1),), (((0, 1),),))
LITTLE = F(1, 10 ** 40)


def judged(a, asker, paper):
    """The sums of the document, number by number."""
    belief, loss = asker
    many = len(belief)
    rows = [F(*x) for x in paper[0]]
    falls, rises = fractions(paper[1]), fractions(paper[2])
    found = {}
    for i in range(many):
        for j in range(many):
            x = F(*belief[i]) * F(*loss[i][abs(i - j)]) - rows[i]
            if i < many - 1:
                x += a * falls[i][j] - rises[i][j]
            if i > 0:
                x += a * rises[i - 1][j] - falls[i - 1][j]
            found[i, j] = x
    return found


def first_fault(a, asker, paper):
    """The first fault of a paper by the document's words."""
    for name, part in (("falls", paper[1]), ("rises", paper[2])):
        for i, row in enumerate(fractions(part)):
            for j, x in enumerate(row):
                if x < 0:
                    return name, i, j
    return min((place for place, x in judged(a, asker, paper).items() if x < 0), default=None)


def bent(paper, part, i, j, by):
    """A paper with one of its numbers moved."""
    parts = [[F(*x) for x in paper[0]], fractions(paper[1]), fractions(paper[2])]
    if part == 0:
        parts[0][i] += by
    else:
        parts[part][i][j] += by
    return pairs(parts[0]), table(parts[1]), table(parts[2])


class BestCase(Raising, unittest.TestCase):
    def is_best(self, n, ratio, asker):
        """What the document says of the best, worked out apart from the program."""
        a, least = F(*ratio), least_ladder_cost(n, F(*ratio), asker)
        number, reading, paper = told = best(n, ratio, asker)
        self.assertIs(type(told), tuple)
        self.assertEqual(number, pair(least))
        self.assertEqual(reading, best_reading(n, ratio, asker))
        self.assertEqual(cost_of(read_as(ladder_table(n, a), reading), asker), least)
        rows, falls, rises = paper
        self.assertEqual((len(rows), len(falls), len(rises)), (n + 1, n, n))
        self.assertTrue(all(x >= 0 for x in judged(a, asker, paper).values()))
        for row in fractions(falls) + fractions(rises):
            self.assertEqual(len(row), n + 1)
            self.assertTrue(min(row) >= 0)
        self.assertEqual(sum(F(*x) for x in rows), least)
        self.assertEqual(shown(paper), number)
        self.assertIs(is_shown(n, ratio, asker, paper), True)
        self.assertIsNone(fault(n, ratio, asker, paper))
        self.assertEqual(least_cost(n, ratio, asker), number)
        return told


class BestTest(BestCase):
    def test_drawn_askers(self):
        rng = random.Random(81)
        for n in range(5):
            for _ in range(12):
                self.is_best(n, random_ratio(rng, one=True), random_asker(rng, n))

    def test_by_name(self):
        told = best(asker=EVEN, ratio=(1, 2), n=1)
        self.assertEqual(told, best(1, (1, 2), EVEN))
        self.assertEqual(least_cost(asker=EVEN, ratio=(1, 2), n=1), told[0])

    def test_the_edges_of_askers(self):
        for n in range(5):
            for ratio in [(1, 2), (1, 1)]:
                for belief in odd_beliefs(n):
                    for loss in odd_losses(n):
                        self.is_best(n, ratio, (belief, loss))

    def test_one_count(self):
        for x in [(0, 1), (7, 3)]:
            for ratio in [(1, 9), (1, 1)]:
                asker = (((1, 1),), ((x,),))
                self.assertEqual(best(0, ratio, asker), (x, (0,), ((x,), (), ())))

    def test_nothing_is_told_by_a_ratio_of_one(self):
        steps = table([range(4)] * 4)
        for belief in [pairs([F(1, 4)] * 4), pairs([F(1, 2), 0, 0, F(1, 2)]), pairs([0, F(1, 3), 0, F(2, 3)])]:
            plain = min(sum(F(*belief[i]) * abs(i - j) for i in range(4)) for j in range(4))
            self.assertEqual(self.is_best(3, (1, 1), (belief, steps))[0], pair(plain))

    def test_numbers_of_eight_figures(self):
        rng = random.Random(82)
        for n in range(5):
            for ratio in LONG_RATIOS:
                self.is_best(n, ratio, long_asker(rng, n))

    def test_what_is_told_is_handed_on(self):
        rng = random.Random(83)
        for n in (2, 4):
            for ratio in LONG_RATIOS:
                belief, loss = long_asker(rng, n)
                self.is_best(n, ratio, (steady(n, ratio, loss)[2], loss))
                moved = behind(behind(belief, ladder(n, ratio), 0), ladder(n, ratio), n)
                self.is_best(n, ratio, (moved, loss))
                flat = ((least_cost(n, ratio, (moved, loss)),) * (n + 1),) * (n + 1)
                self.is_best(n, ratio, (moved, flat))

    def test_no_reading_and_no_mixed_reading_costs_less(self):
        rng = random.Random(84)
        for n in range(1, 5):
            for _ in range(5):
                ratio, asker = random_ratio(rng, one=True), random_asker(rng, n)
                least, rows = F(*best(n, ratio, asker)[0]), ladder_table(n, F(*ratio))
                for _ in range(20):
                    reading = [rng.randint(0, n) for _ in range(n + 1)]
                    self.assertGreaterEqual(cost_of(read_as(rows, reading), asker), least)
                    mixed = [random_row(rng, n + 1) for _ in range(n + 1)]
                    self.assertGreaterEqual(cost_of(multiplied(rows, mixed), asker), least)

    def test_no_scheme_of_the_factor_costs_less(self):
        rng = random.Random(85)
        for n in range(1, 5):
            for _ in range(5):
                ratio, asker = random_ratio(rng, one=True), random_asker(rng, n)
                least = F(*best(n, ratio, asker)[0])
                for _ in range(30):
                    drawn = moved_scheme(rng, n, F(*ratio))
                    self.assertIs(has_factor(table(drawn), ratio[::-1]), True)
                    self.assertGreaterEqual(cost_of(drawn, asker), least)

    def test_a_scheme_that_is_no_reading_reaches_it_at_most(self):
        # Of factor 2, and bent too much for the ladder of 1/2: it serves nobody better.
        told = [[F(1, 2), F(1, 2), 0], [F(1, 4), F(3, 4), 0], [F(1, 2), F(1, 2), 0]]
        self.assertEqual(factor(table(told))[0], (2, 1))
        for belief in odd_beliefs(2):
            for loss in odd_losses(2):
                self.assertLessEqual(F(*least_cost(2, (1, 2), (belief, loss))), cost_of(told, (belief, loss)))

    def test_wrong_inputs(self):
        for function in (best, least_cost):
            for wrong in (-1, -7):
                self.raises(InvalidNumber, wrong, function, wrong, (0, 1), ())
            for wrong in NO_RATIOS:
                self.raises(InvalidRatio, wrong, function, 1, wrong, ())
            for wrong in NO_ASKERS:
                self.raises(InvalidAsker, wrong, function, 1, (1, 2), wrong)
            self.raises(InvalidAsker, EVEN, function, 0, (1, 2), EVEN)
            self.raises(InvalidAsker, EVEN, function, 2, (1, 2), EVEN)


class FaultTest(BestCase):
    def test_by_name(self):
        self.assertIsNone(fault(paper=PAPER, asker=EVEN, ratio=(1, 2), n=1))
        self.assertIs(is_shown(paper=PAPER, asker=EVEN, ratio=(1, 2), n=1), True)
        self.assertEqual(fault(1, (1, 2), SURE, PAPER), (1, 0))
        self.assertEqual(shown(paper=PAPER), (1, 3))

    def test_a_paper_bent_in_each_of_its_numbers(self):
        rng = random.Random(86)
        for n in range(4):
            for _ in range(3):
                ratio, asker = random_ratio(rng, one=True), random_asker(rng, n)
                paper = best(n, ratio, asker)[2]
                places = [(0, i, 0) for i in range(n + 1)]
                places += [(part, i, j) for part in (1, 2) for i in range(n) for j in range(n + 1)]
                for part, i, j in places:
                    for by in (LITTLE, -LITTLE, 1, -1):
                        wrong = bent(paper, part, i, j, F(by))
                        expected = first_fault(F(*ratio), asker, wrong)
                        self.assertEqual(fault(n, ratio, asker, wrong), expected)
                        self.assertIs(is_shown(n, ratio, asker, wrong), expected is None)
                        self.assertEqual(shown(wrong), pair(sum(F(*x) for x in wrong[0])))

    def test_no_paper_above_the_least_is_taken(self):
        rng = random.Random(87)
        for n in range(4):
            ratio, asker = random_ratio(rng, one=True), random_asker(rng, n)
            paper = best(n, ratio, asker)[2]
            for i in range(n + 1):
                self.assertIs(is_shown(n, ratio, asker, bent(paper, 0, i, 0, LITTLE)), False)

    def test_drawn_papers(self):
        rng = random.Random(88)
        found = set()
        for _ in range(300):
            n, low = rng.randint(0, 3), rng.choice((-1, 0, 0))
            ratio, asker = random_ratio(rng, one=True), random_asker(rng, n)
            paper = (pairs(rng.randint(-9, 1) for _ in range(n + 1)),
                     table([[rng.randint(low, 6) for _ in range(n + 1)] for _ in range(n)]),
                     table([[rng.randint(low, 6) for _ in range(n + 1)] for _ in range(n)]))
            expected = first_fault(F(*ratio), asker, paper)
            found.add(expected[0] if expected and len(expected) == 3 else bool(expected))
            self.assertEqual(fault(n, ratio, asker, paper), expected)
            self.assertIs(is_shown(n, ratio, asker, paper), expected is None)
        self.assertEqual(found, {"falls", "rises", True, False})

    def test_falls_then_rises_then_sums(self):
        asker = (pairs([F(1, 3)] * 3), table([range(3)] * 3))
        paper = best(2, (1, 2), asker)[2]
        wrong = bent(paper, 0, 0, 0, F(100))
        self.assertEqual(fault(2, (1, 2), asker, wrong), (0, 0))
        wrong = bent(wrong, 2, 1, 2, F(-100))
        self.assertEqual(fault(2, (1, 2), asker, wrong), ("rises", 1, 2))
        wrong = bent(wrong, 2, 1, 1, F(-100))
        self.assertEqual(fault(2, (1, 2), asker, wrong), ("rises", 1, 1))
        wrong = bent(wrong, 2, 0, 2, F(-100))
        self.assertEqual(fault(2, (1, 2), asker, wrong), ("rises", 0, 2))
        wrong = bent(wrong, 1, 1, 2, F(-100))
        self.assertEqual(fault(2, (1, 2), asker, wrong), ("falls", 1, 2))
        wrong = bent(wrong, 1, 1, 0, F(-100))
        self.assertEqual(fault(2, (1, 2), asker, wrong), ("falls", 1, 0))
        wrong = bent(wrong, 1, 0, 2, F(-100))
        self.assertEqual(fault(2, (1, 2), asker, wrong), ("falls", 0, 2))
        self.assertIs(is_shown(2, (1, 2), asker, wrong), False)

    def test_other_forms_and_sizes(self):
        rows, falls, rises = PAPER
        wrongs = [
            (),
            (rows,),
            (rows, falls),
            (rows, falls, rises, ()),
            ((), falls, rises),
            (rows + ((1, 1),), falls, rises),
            (rows[:1], falls, rises),
            (rows, (), rises),
            (rows, falls, ()),
            (rows, falls + falls, rises),
            (rows, falls, rises + rises),
            (rows, (falls[0][:1],), rises),
            (rows, falls, (rises[0] + rises[0],)),
            (((1, 6), (2, 12)), falls, rises),
            (((1, 6), (1, 0)), falls, rises),
            (rows, (((2, 6), (0, 1)),), rises),
            (rows, falls, (((0, 1), (1, -3)),)),
            (rows, falls, (((0, 1), (0, 3)),)),
            (7, falls, rises),
            (rows, 7, rises),
            (rows, falls, 7),
            (rows, (7,), rises),
            "falls",
            7,
        ]
        for wrong in wrongs:
            self.raises(InvalidPaper, wrong, fault, 1, (1, 2), EVEN, wrong)
            self.raises(InvalidPaper, wrong, is_shown, 1, (1, 2), EVEN, wrong)
            self.raises(InvalidPaper, wrong, shown, wrong)
        one_count = (((1, 6),), (), ())
        self.assertEqual(shown(one_count), (1, 6))
        self.raises(InvalidPaper, one_count, fault, 1, (1, 2), EVEN, one_count)
        self.raises(InvalidPaper, PAPER, fault, 0, (1, 2), ONE_COUNT, PAPER)
        self.raises(InvalidPaper, ((), (), ()), shown, ((), (), ()))

    def test_wrong_inputs(self):
        for function in (fault, is_shown):
            for wrong in (-1, -7):
                self.raises(InvalidNumber, wrong, function, wrong, (0, 1), (), ())
            for wrong in NO_RATIOS:
                self.raises(InvalidRatio, wrong, function, 1, wrong, (), ())
            for wrong in NO_ASKERS:
                self.raises(InvalidAsker, wrong, function, 1, (1, 2), wrong, ())
            self.raises(InvalidAsker, EVEN, function, 2, (1, 2), EVEN, PAPER)


class MustsTest(BestCase):
    def test_the_sequence_of_two_counts(self):
        minus, one, a = (-1, 1), (1, 1), (2, 3)
        self.assertEqual(musts_of(1, a), (
            ("most", ((0, 1), ((0, minus),))),
            ("most", ((0, 1), ((1, minus),))),
            ("most", ((0, 1), ((2, minus),))),
            ("most", ((0, 1), ((3, minus),))),
            ("is", (minus, ((0, one), (1, one)))),
            ("is", (minus, ((2, one), (3, one)))),
            ("most", ((0, 1), ((0, a), (2, minus)))),
            ("most", ((0, 1), ((1, a), (3, minus)))),
            ("most", ((0, 1), ((0, minus), (2, a)))),
            ("most", ((0, 1), ((1, minus), (3, a)))),
        ))
        self.assertEqual(musts_of(n=0, ratio=a), (
            ("most", ((0, 1), ((0, minus),))),
            ("is", (minus, ((0, one),))),
        ))

    def test_the_sequence_of_more_counts(self):
        minus, one = (-1, 1), (1, 1)
        for n in (2, 3, 4):
            for a in [(2, 3), (1, 1)]:
                many = n + 1
                steps = [(i * many + j, (i + 1) * many + j) for i in range(n) for j in range(many)]
                expected = [("most", ((0, 1), ((i * many + j, minus),))) for i in range(many) for j in range(many)]
                expected += [("is", (minus, tuple((i * many + j, one) for j in range(many)))) for i in range(many)]
                expected += [("most", ((0, 1), ((x, a), (y, minus)))) for x, y in steps]
                expected += [("most", ((0, 1), ((x, minus), (y, a)))) for x, y in steps]
                self.assertEqual(musts_of(n, a), tuple(expected))

    def test_the_aim(self):
        self.assertEqual(aim_of(EVEN), ((0, 1), ((1, (1, 2)), (2, (1, 2)))))
        self.assertEqual(aim_of(asker=SURE), ((0, 1), ((1, (9, 10)), (2, (1, 10)))))
        self.assertEqual(aim_of((((1, 1), (0, 1)), PLAIN)), ((0, 1), ((1, (1, 1)),)))
        self.assertEqual(aim_of(ONE_COUNT), ((0, 1), ()))
        self.assertEqual(aim_of((((1, 1),), (((2, 1),),))), ((0, 1), ((0, (2, 1)),)))
        rng = random.Random(89)
        for n in range(5):
            belief, loss = asker = random_asker(rng, n)
            costs = [F(*belief[i]) * x for i in range(n + 1) for x in losses_of(loss, i)]
            expected = tuple((unknown, pair(x)) for unknown, x in enumerate(costs) if x)
            self.assertEqual(aim_of(asker), ((0, 1), expected))

    def test_their_least_is_the_least_cost(self):
        rng = random.Random(90)
        for n in range(5):
            for _ in range(3):
                ratio, asker = random_ratio(rng, one=True), random_asker(rng, n)
                musts, aim, many = musts_of(n, ratio), aim_of(asker), (n + 1) ** 2
                told = least_sum(many, musts, aim)
                self.assertEqual(told[:2], ("least", pair(least_ladder_cost(n, F(*ratio), asker))))
                self.assertIs(shows(many, musts, aim, told), True)
                # The ladder, read as told, is a point that keeps the musts and is as good.
                reading = best_reading(n, ratio, asker)
                point = sum(read_as(ladder_table(n, F(*ratio)), reading), [])
                self.assertIs(shows(many, musts, aim, told[:2] + (pairs(point), told[3])), True)

    def test_wrong_inputs(self):
        for wrong in [7, "asker", (7, PLAIN), (EVEN[0], 7)]:
            self.raises(InvalidAsker, wrong, aim_of, wrong)
        for wrong in (-1, -7):
            self.raises(InvalidNumber, wrong, musts_of, wrong, (0, 1))
        for wrong in NO_RATIOS:
            self.raises(InvalidRatio, wrong, musts_of, 1, wrong)
        for wrong in NO_ASKERS:
            if wrong != ONE_COUNT:
                self.raises(InvalidAsker, wrong, aim_of, wrong)


if __name__ == "__main__":
    unittest.main()
