import copy
import random
import unittest
from itertools import combinations

from exact import F, pair, pairs
from raising import Raising

from oneservesall.errors import InvalidForm, InvalidNumber, InvalidPaper, InvalidWish
from oneservesall.sums import least_sum, shows

NOTHING = ((0, 1), ())
FIVE = ((5, 1), ())
LITTLE = F(1, 10 ** 30)
NO_FORMS = [
    (),
    ((0, 1),),
    ((0, 1), (), ()),
    ((2, 4), ()),
    ((1, 0), ()),
    ((1, -1), ()),
    ((0, 1), ((0, (0, 1)),)),
    ((0, 1), ((0, (2, 2)),)),
    ((0, 1), ((0, (1, 0)),)),
    ((0, 1), ((-1, (1, 1)),)),
    ((0, 1), ((2, (1, 1)),)),
    ((0, 1), ((1, (1, 1)), (0, (1, 1)))),
    ((0, 1), ((0, (1, 1)), (0, (2, 1)))),
    ((0, 1), ((0, (1, 1)), (1, (1, 1)), (2, (1, 1)))),
    7,
    "ab",
    (7, ()),
    ((0, 1), 7),
    ((0, 1), (7,)),
    ((0, 1), ((0,),)),
    ((0, 1), ((0, 7),)),
    ((0, 1), ((0, (1, 1), 2),)),
    ((0, 1), (("a", (1, 1)),)),
]


def form(constant, row):
    return pair(constant), tuple((unknown, pair(a)) for unknown, a in enumerate(row) if a)


def most(constant, row):
    return "most", form(constant, row)


def same(constant, row):
    return "is", form(constant, row)


def worth(told, point, constant=True):
    return (F(*told[0]) if constant else 0) + sum(F(*a) * point[unknown] for unknown, a in told[1])


def is_kept(kind, a):
    return a == 0 if kind == "is" else a <= 0


def rows_of(numbers):
    return [F(*a) for a in numbers]


def summed(many, forms, multipliers):
    found = [F(0)] * (many + 1)
    for told, multiplier in zip(forms, multipliers):
        found[many] += F(*told[0]) * multiplier
        for unknown, a in told[1]:
            found[unknown] += F(*a) * multiplier
    return found


def is_right(many, musts, aim, told):
    """What the document says of each of the three answers, reckoned apart from the program."""
    if told[0] == "endless":
        point, way = rows_of(told[1]), rows_of(told[2])
        kept = all(is_kept(kind, worth(f, point)) and is_kept(kind, worth(f, way, False)) for kind, f in musts)
        return len(point) == len(way) == many and kept and worth(aim, way, False) < 0
    multipliers = rows_of(told[-1])
    if len(multipliers) != len(musts) or any(kind == "most" and a < 0 for (kind, _), a in zip(musts, multipliers)):
        return False
    if told[0] == "none":
        found = summed(many, [f for _, f in musts], multipliers)
        return not any(found[:many]) and found[many] > 0
    point = rows_of(told[2])
    found = summed(many, [aim] + [f for _, f in musts], [1] + multipliers)
    kept = len(point) == many and all(is_kept(kind, worth(f, point)) for kind, f in musts)
    return kept and not any(found[:many]) and found[many] == F(*told[1]) == worth(aim, point)


def solved(rows):
    """The one point of linear equations (row, constant), or None."""
    rows = [list(row) + [-constant] for row, constant in rows]
    many = len(rows)
    for c in range(many):
        r = next((k for k in range(c, many) if rows[k][c]), None)
        if r is None:
            return None
        rows[c], rows[r] = rows[r], rows[c]
        rows[c] = [a / rows[c][c] for a in rows[c]]
        for k in range(many):
            if k != c and rows[k][c]:
                rows[k] = [a - rows[k][c] * b for a, b in zip(rows[k], rows[c])]
    return [row[-1] for row in rows]


def least_at_corners(many, musts, aim):
    """The least of the aim over all corners, for musts that keep all unknowns within bounds; None without any."""
    found = []
    lines = [([dict(f[1]).get(u, (0, 1)) for u in range(many)], f[0]) for _, f in musts]
    lines = [(rows_of(row), F(*constant)) for row, constant in lines]
    for chosen in combinations(lines, many):
        point = solved(chosen)
        if point is not None and all(is_kept(kind, worth(f, point)) for kind, f in musts):
            found.append(worth(aim, point))
    return min(found) if found else None


class SumsCase(Raising, unittest.TestCase):
    def told(self, many, musts, aim):
        before = copy.deepcopy((musts, aim))
        told = least_sum(many, musts, aim)
        self.assertEqual((musts, aim), before)
        self.assertIs(type(told), tuple)
        self.assertIs(is_right(many, musts, aim, told), True)
        self.assertIs(shows(many, musts, aim, told), True)
        return told


class LeastSumTest(SumsCase):
    def test_small_ones(self):
        musts = (most(0, [-1, 0]), most(0, [0, -1]), most(-4, [1, 2]), most(-6, [3, 1]))
        self.assertEqual(self.told(2, musts, form(0, [-1, -1]))[1], (-14, 5))
        self.assertEqual(self.told(2, musts, form(7, [-1, -1]))[1], (21, 5))
        self.assertEqual(self.told(2, musts, form(0, [1, 0]))[1], (0, 1))
        self.assertEqual(self.told(1, (same(-3, [2]),), form(1, [4])),
                         ("least", (7, 1), ((3, 2),), ((-2, 1),)))
        self.assertEqual(self.told(1, (most(3, [-2]),), form(0, [1])),
                         ("least", (3, 2), ((3, 2),), ((1, 2),)))

    def test_by_name_and_with_a_list_of_musts(self):
        musts = [most(3, [-2])]
        self.assertEqual(least_sum(aim=form(0, [1]), musts=musts, many=1)[1], (3, 2))
        self.assertIs(shows(told=least_sum(1, musts, form(0, [1])), aim=form(0, [1]), musts=musts, many=1), True)

    def test_against_all_corners(self):
        rng = random.Random(61)
        kinds = {"least": 0, "none": 0}
        for _ in range(150):
            many = rng.randint(1, 3)
            box = [most(-rng.randint(1, 4), [int(u == k) for u in range(many)]) for k in range(many)]
            box += [most(-rng.randint(1, 4), [-int(u == k) for u in range(many)]) for k in range(many)]
            others = [rng.choice((most, most, same))(F(rng.randint(-6, 6), rng.randint(1, 3)),
                                                     [rng.randint(-3, 3) for _ in range(many)])
                      for _ in range(rng.randint(0, 3))]
            musts = box + others
            rng.shuffle(musts)
            aim = form(rng.randint(-3, 3), [rng.randint(-3, 3) for _ in range(many)])
            told = self.told(many, tuple(musts), aim)
            kinds[told[0]] += 1
            least = least_at_corners(many, musts, aim)
            self.assertEqual(told[:2] if told[0] == "least" else "none", ("least", pair(least)) if least is not None
                             else "none")
        self.assertTrue(min(kinds.values()) > 10)

    def test_all_three_are_right(self):
        rng = random.Random(62)
        kinds = {"least": 0, "none": 0, "endless": 0}
        for _ in range(400):
            many = rng.randint(1, 5)
            musts = tuple(
                rng.choice((most, most, most, same))(rng.randint(-4, 4), [rng.choice((0, 0, 1, -1, 2, F(1, 2)))
                                                                          for _ in range(many)])
                for _ in range(rng.randint(0, 8))
            )
            aim = form(rng.randint(-3, 3), [rng.choice((0, 0, 1, -1)) for _ in range(many)])
            kinds[self.told(many, musts, aim)[0]] += 1
        self.assertTrue(min(kinds.values()) > 40)

    def test_without_musts(self):
        self.assertEqual(self.told(1, (), FIVE), ("least", (5, 1), ((0, 1),), ()))
        self.assertEqual(self.told(3, [], NOTHING)[:2], ("least", (0, 1)))
        self.assertEqual(self.told(2, (), form(5, [0, 3]))[0], "endless")
        self.assertEqual(self.told(2, (), form(5, [-3, 0]))[0], "endless")

    def test_constants_alone(self):
        kept = (("most", ((-1, 2), ())), ("most", NOTHING), ("is", NOTHING))
        self.assertEqual(self.told(2, kept, FIVE)[:2], ("least", (5, 1)))
        self.assertEqual(self.told(2, kept, form(0, [0, 1]))[0], "endless")
        self.assertEqual(self.told(1, (("most", ((1, 10 ** 7), ())),), FIVE)[0], "none")
        self.assertEqual(self.told(1, (("is", ((1, 3), ())),), FIVE)[0], "none")
        self.assertEqual(self.told(1, (("is", ((-1, 3), ())),), FIVE)[0], "none")
        self.assertEqual(self.told(1, kept + (("is", FIVE),), form(0, [1]))[0], "none")

    def test_a_least_that_is_reached_at_many_points(self):
        box = (most(0, [-1, 0]), most(0, [0, -1]), most(-1, [1, 0]), most(-1, [0, 1]))
        self.assertEqual(self.told(2, box, form(0, [1, 0]))[1], (0, 1))
        self.assertEqual(self.told(2, box, FIVE)[1], (5, 1))
        self.assertEqual(self.told(2, box + (same(-1, [1, 1]),), form(0, [2, 2]))[1], (2, 1))
        self.assertEqual(self.told(2, (most(1, [-1, -1]),), form(0, [1, 1]))[1], (1, 1))

    def test_that_have_none(self):
        self.assertEqual(self.told(1, (most(0, [1]), most(1, [-1])), form(0, [1]))[0], "none")
        self.assertEqual(self.told(2, (same(0, [1, 1]), same(-1, [2, 2])), NOTHING)[0], "none")
        self.assertEqual(self.told(2, (same(0, [1, 1]), most(1, [1, 1])), form(0, [1, -1]))[0], "none")
        self.assertEqual(self.told(2, (same(-1, [1, 1]), most(0, [1, 0]), most(LITTLE, [0, 1])), FIVE)[0], "none")
        self.assertEqual(self.told(2, (same(-1, [1, 1]), most(0, [1, 0]), most(-1, [0, 1])), FIVE)[0], "least")

    def test_that_are_endless(self):
        self.assertEqual(self.told(1, (most(0, [1]),), form(0, [1]))[0], "endless")
        self.assertEqual(self.told(1, (most(3, [1]),), form(0, [1]))[0], "endless")
        self.assertEqual(self.told(2, (same(3, [1, -1]),), form(0, [1, 0]))[0], "endless")
        self.assertEqual(self.told(2, (same(3, [1, -1]), most(0, [-1, 0])), form(0, [-1, 0]))[0], "endless")
        self.assertEqual(self.told(2, (most(0, [-1, 0]), most(1, [1, -1])), form(0, [1, -LITTLE]))[0], "endless")
        self.assertEqual(self.told(3, (same(-2, [1, 0, 0]),), form(0, [1, 0, 1]))[0], "endless")

    def test_musts_that_say_the_same(self):
        musts = (same(-1, [1, 1]), same(-2, [2, 2]), same(F(-1, 2), [F(1, 2), F(1, 2)]), most(0, [-1, 0]))
        self.assertEqual(self.told(2, musts, form(0, [1, 0]))[1], (0, 1))
        self.assertEqual(self.told(2, (most(0, [-1, 0]),) * 5 + (same(-7, [0, 2]),), form(0, [3, 2]))[1], (7, 1))

    def test_unknowns_that_nothing_has(self):
        self.assertEqual(self.told(5, (most(-2, [0, 0, -1]),), form(0, [0, 0, 1]))[1], (-2, 1))


class RoundAndRoundTest(SumsCase):
    """Sums over unknowns from 0 on at which steps of the steepest fall come round again."""

    def least_from_zero_on(self, rows, constants, aim):
        many = len(aim)
        musts = [most(-constant, row) for row, constant in zip(rows, constants)]
        musts += [most(0, [-int(u == k) for u in range(many)]) for k in range(many)]
        found = self.told(many, tuple(musts), form(0, aim))
        for _ in range(4):
            random.Random(len(musts)).shuffle(musts)
            again = self.told(many, tuple(musts), form(0, aim))
            self.assertEqual(again[:1] + again[1:2] * (again[0] == "least"), found[:1] + found[1:2] * (found[0] == "least"))
        return found

    def test_beale(self):
        rows = [[F(1, 4), -60, F(-1, 25), 9], [F(1, 2), -90, F(-1, 50), 3], [0, 0, 1, 0]]
        told = self.least_from_zero_on(rows, [0, 0, 1], [F(-3, 4), 150, F(-1, 50), 6])
        self.assertEqual(told[:2], ("least", (-1, 20)))

    def test_chvatal(self):
        rows = [[F(1, 2), F(-11, 2), F(-5, 2), 9], [F(1, 2), F(-3, 2), F(-1, 2), 1], [1, 0, 0, 0]]
        told = self.least_from_zero_on(rows, [0, 0, 1], [-10, 57, 9, 24])
        self.assertEqual(told[:2], ("least", (-1, 1)))

    def test_kuhn(self):
        rows = [[-2, -9, 1, 9], [F(1, 3), 1, F(-1, 3), -2], [2, 3, -1, -12]]
        told = self.least_from_zero_on(rows, [0, 0, 2], [-2, -3, 1, 12])
        self.assertEqual(told[:2], ("least", (-2, 1)))

    def test_marshall_and_suurballe(self):
        rows = [[F(1, 2), F(-11, 2), F(-5, 2), 9], [F(1, 2), F(-3, 2), F(-1, 2), 1]]
        self.assertEqual(self.least_from_zero_on(rows, [0, 0], [-10, 57, 9, 24])[0], "endless")

    def test_all_constants_zero(self):
        rng = random.Random(63)
        for _ in range(30):
            many = rng.randint(2, 6)
            rows = [[rng.randint(-2, 2) for _ in range(many)] for _ in range(rng.randint(1, 8))]
            aim = form(0, [rng.randint(-2, 2) for _ in range(many)])
            musts = tuple(most(0, row) for row in rows)
            told = self.told(many, musts, aim)
            self.assertTrue(told[0] == "endless" or told[1] == (0, 1))

    def test_a_place_for_each(self):
        rng = random.Random(64)
        many = 6
        worths = [[rng.randint(0, 20) for _ in range(many)] for _ in range(many)]
        musts = [most(0, [-int(u == k) for u in range(many * many)]) for k in range(many * many)]
        musts += [same(-1, [int(u // many == k) for u in range(many * many)]) for k in range(many)]
        musts += [same(-1, [int(u % many == k) for u in range(many * many)]) for k in range(many)]
        told = self.told(many * many, tuple(musts), form(0, sum(worths, [])))
        self.assertEqual(told[:2], ("least", (least_places(worths), 1)))


def least_places(worths, taken=()):
    if len(taken) == len(worths):
        return 0
    row = worths[len(taken)]
    return min(row[k] + least_places(worths, taken + (k,)) for k in range(len(row)) if k not in taken)


class FortyUnknownsTest(SumsCase):
    """40 unknowns and 80 musts, made around a point and multipliers that are known to fit."""

    def sum_around(self, rng, entry):
        many, musts = 40, 80
        point = [F(rng.randint(-9, 9), rng.randint(1, 9)) for _ in range(many)]
        rows = [[entry() for _ in range(many)] for _ in range(musts)]
        multipliers = [rng.randint(1, 9) if k < many else 0 for k in range(musts)]
        rooms = [0 if k < many else rng.randint(0, 9) for k in range(musts)]
        made = [most(-room - sum(a * x for a, x in zip(row, point)), row) for row, room in zip(rows, rooms)]
        aim = [-sum(m * row[u] for m, row in zip(multipliers, rows)) for u in range(many)]
        return many, tuple(made), form(0, aim), sum(a * x for a, x in zip(aim, point))

    def test_that_have_a_least(self):
        rng = random.Random(65)
        for entry in (lambda: rng.randint(-9, 9), lambda: rng.choice((0, 0, 0, 1, -1, 2)),
                      lambda: rng.choice((0, 0, F(rng.randint(-99, 99), rng.randint(1, 4))))):
            many, musts, aim, least = self.sum_around(rng, entry)
            self.assertEqual(self.told(many, musts, aim)[:2], ("least", pair(least)))

    def test_that_have_none_and_that_are_endless(self):
        rng = random.Random(66)
        many, musts, aim, least = self.sum_around(rng, lambda: rng.randint(-9, 9))
        row = [F(*dict(aim[1]).get(u, (0, 1))) for u in range(many)]
        beyond = musts[:79] + (most(-least + 1, row),)
        self.assertEqual(self.told(many, beyond, aim)[0], "none")
        self.assertEqual(self.told(many, musts[:39], aim)[0], "endless")

    def test_cubes_with_very_many_corners(self):
        for little in (F(1, 3), F(2, 5), F(1, 100)):
            musts = []
            for k in range(40):
                low, high = [F(0)] * 40, [F(0)] * 40
                low[k], high[k] = F(-1), F(1)
                if k:
                    low[k - 1] = high[k - 1] = little
                musts += [most(0, low), most(-1, high)]
            told = self.told(40, tuple(musts), form(0, [0] * 39 + [-1]))
            self.assertEqual(told[:2], ("least", (-1, 1)))
            told = self.told(40, tuple(musts[::-1]), form(0, [-(2 ** u) for u in range(20)] + [0] * 20))
            self.assertEqual(told[0], "least")

    def test_a_chain_of_equals(self):
        # Two ways of each of 20 steps, and nothing but zeros among the constants but for one.
        little, many = F(1, 3), 20
        musts = [most(0, [-int(u == k) for u in range(40)]) for k in range(40)]
        for k in range(many):
            row = [F(0)] * 40
            row[2 * k], row[2 * k + 1] = F(-1), F(1)
            if k + 1 < many:
                row[2 * k + 2], row[2 * k + 3] = little, little
            musts.append(same(-int(k + 1 == many), row))
        told = self.told(40, tuple(musts), form(0, [u % 2 for u in range(40)]))
        self.assertEqual(told[:2], ("least", (1, 1)))

    def test_numbers_of_eight_digits(self):
        rng = random.Random(67)
        many, musts, aim, least = self.sum_around(
            rng, lambda: rng.choice((0,) * 15 + (F(rng.randint(1, 10 ** 8 - 1), rng.randint(1, 10 ** 8 - 1)),)))
        self.assertEqual(self.told(many, musts, aim)[:2], ("least", pair(least)))


class ShowsTest(SumsCase):
    MUSTS = (most(0, [-1, 0]), most(0, [0, -1]), same(-1, [1, 1]))
    AIM = form(2, [1, 3])
    LEAST = ("least", (3, 1), pairs([1, 0]), pairs([0, 2, -1]))
    AGAINST = (most(0, [1, 0]), most(1, [-1, 0]), same(0, [0, 1]))
    NONE = ("none", pairs([2, 2, 0]))
    OPEN = (most(0, [-1, 0]), same(-1, [0, 1]))
    ENDLESS = ("endless", pairs([0, 1]), pairs([1, 0]))
    FALL = form(0, [-1, 0])

    def test_the_right_ones(self):
        self.assertIs(shows(2, self.MUSTS, self.AIM, self.LEAST), True)
        self.assertIs(shows(2, self.AGAINST, self.AIM, self.NONE), True)
        self.assertIs(shows(2, self.OPEN, self.FALL, self.ENDLESS), True)

    def test_a_least_bent_in_each_of_its_parts(self):
        self.refuses_each_bend(self.MUSTS, self.AIM, self.LEAST)
        word, number, point, multipliers = self.LEAST
        self.assertIs(shows(2, self.MUSTS, self.AIM, (word, number, pairs([0, 1]), multipliers)), False)
        self.assertIs(shows(2, self.MUSTS, self.AIM, (word, (5, 1), pairs([0, 1]), multipliers)), False)
        self.assertIs(shows(2, self.MUSTS, self.AIM, (word, (5, 1), pairs([0, 1]), pairs([0, 2, -3]))), False)
        self.assertIs(shows(2, self.MUSTS, self.AIM, (word, number, pairs([4, -1]), multipliers)), False)
        self.assertIs(shows(2, self.MUSTS, self.AIM, (word, number, pairs([1, F(1, 3)]), multipliers)), False)
        self.assertIs(shows(2, self.MUSTS, self.AIM, (word, (2, 1), pairs([0, 0]), pairs([1, 3, 0]))), False)

    def test_a_multiplier_of_a_most_below_zero(self):
        # It adds up to a constant, but says nothing.
        self.assertIs(shows(1, (most(-5, [1]),), form(0, [1]), ("least", (5, 1), pairs([5]), pairs([-1]))), False)
        self.assertIs(shows(1, (same(-5, [1]),), form(0, [1]), ("least", (5, 1), pairs([5]), pairs([-1]))), True)
        self.assertIs(shows(1, (most(-5, [1]), most(4, [1])), FIVE, ("none", pairs([-1, 1]))), False)
        self.assertIs(shows(1, (same(-5, [1]), most(4, [1])), FIVE, ("none", pairs([-1, 1]))), True)
        self.assertIs(shows(1, (same(-5, [1]), same(4, [1])), FIVE, ("none", pairs([1, -1]))), False)

    def test_a_none_bent_in_each_of_its_parts(self):
        self.assertIs(shows(2, self.AGAINST, self.AIM, ("none", pairs([0, 0, 0]))), False)
        for k in range(3):
            bent = [2, 2, 0]
            bent[k] += LITTLE
            self.assertIs(shows(2, self.AGAINST, self.AIM, ("none", pairs(bent))), False)
        self.assertIs(shows(1, (most(0, [1]), most(0, [-1])), FIVE, ("none", pairs([1, 1]))), False)

    def test_an_endless_bent_in_each_of_its_parts(self):
        for point in ([-LITTLE, 1], [0, 1 + LITTLE], [0, 1 - LITTLE]):
            self.assertIs(shows(2, self.OPEN, self.FALL, ("endless", pairs(point), self.ENDLESS[2])), False)
        for way in ([0, 0], [-1, 0], [1, LITTLE], [1, -LITTLE]):
            self.assertIs(shows(2, self.OPEN, self.FALL, ("endless", self.ENDLESS[1], pairs(way))), False)
        self.assertIs(shows(2, self.OPEN, form(0, [1, 0]), self.ENDLESS), False)
        self.assertIs(shows(2, self.OPEN, FIVE, self.ENDLESS), False)
        self.assertIs(shows(2, self.OPEN, self.FALL, ("endless", pairs([7, 1]), pairs([F(1, 9), 0]))), True)

    def test_one_answer_is_not_another(self):
        self.assertIs(shows(2, self.MUSTS, self.AIM, ("none", self.LEAST[3])), False)
        self.assertIs(shows(2, self.MUSTS, self.AIM, ("endless", self.LEAST[2], self.LEAST[2])), False)
        self.assertIs(shows(2, self.AGAINST, NOTHING, ("least", (0, 1), pairs([0, 0]), pairs([0, 0, 0]))), False)

    def refuses_each_bend(self, musts, aim, told):
        for part in (2, 3):
            for k in range(len(told[part])):
                for by in (LITTLE, -LITTLE, 1, -1):
                    bent = rows_of(told[part])
                    bent[k] += by
                    wrong = told[:part] + (pairs(bent),) + told[part + 1:]
                    self.assertIs(shows(2, musts, aim, wrong), False)
        for by in (LITTLE, -LITTLE):
            self.assertIs(shows(2, musts, aim, told[:1] + (pair(F(*told[1]) + by),) + told[2:]), False)

    def test_bends_of_told_answers(self):
        rng = random.Random(68)
        seen = set()
        for _ in range(120):
            many = rng.randint(1, 4)
            musts = tuple(rng.choice((most, most, same))(rng.randint(-3, 3), [rng.randint(-2, 2) for _ in range(many)])
                          for _ in range(rng.randint(1, 6)))
            aim = form(rng.randint(-3, 3), [rng.randint(-2, 2) for _ in range(many)])
            told = self.told(many, musts, aim)
            seen.add(told[0])
            for part in range(1, len(told)):
                if told[part] and isinstance(told[part][0], tuple):
                    bent = rows_of(told[part])
                    bent[rng.randrange(len(bent))] += rng.choice((1, -1, LITTLE))
                    wrong = told[:part] + (pairs(bent),) + told[part + 1:]
                    self.assertIs(shows(many, musts, aim, wrong), is_right(many, musts, aim, wrong))
        self.assertEqual(seen, {"least", "none", "endless"})

    def test_other_forms_and_sizes(self):
        number, point, multipliers = self.LEAST[1:]
        for wrong in [
            (),
            ("least",),
            ("most", number, point, multipliers),
            ("least", number, point),
            ("least", number, point, multipliers, ()),
            ("least", (6, 2), point, multipliers),
            ("least", (3, 0), point, multipliers),
            ("least", number, point[:1], multipliers),
            ("least", number, point + point, multipliers),
            ("least", number, point, multipliers[:2]),
            ("least", number, point, multipliers + multipliers[:1]),
            ("least", number, ((1, 1), (0, 2)), multipliers),
            ("least", number, point, ((0, 1), (4, 2), (-1, 1))),
            ("none",),
            ("none", multipliers[:2]),
            ("none", multipliers, ()),
            ("none", ((0, 1), (0, 1), (2, 2))),
            ("endless", point),
            ("endless", point, point[:1]),
            ("endless", point[:1], point),
            ("endless", point, point, ()),
            ("endless", ((1, 1), (2, 2)), point),
            ("endless", point, ((1, 1), (2, 2))),
        ]:
            self.raises(InvalidPaper, wrong, shows, 2, self.MUSTS, self.AIM, wrong)


class WrongInputsTest(SumsCase):
    def both_raise(self, error, value, many, musts, aim):
        self.raises(error, value, least_sum, many, musts, aim)
        self.raises(error, value, shows, many, musts, aim, ())

    def test_too_few_unknowns(self):
        for many in (0, -1, -10 ** 20):
            self.both_raise(InvalidNumber, many, many, (("no", ()),), ())

    def test_forms(self):
        fine = form(1, [1, 2])
        for wrong in NO_FORMS:
            self.both_raise(InvalidForm, wrong, 2, (), wrong)
            self.both_raise(InvalidForm, wrong, 2, [("most", fine), ("is", wrong), ("is", ())], ())
            self.both_raise(InvalidForm, wrong, 2, (("no", fine), ("no", wrong)), fine)
        self.both_raise(InvalidForm, fine, 1, (), fine)

    def test_kinds(self):
        fine = form(1, [1, 2])
        for kind in ("no", "", "IS", "least"):
            self.both_raise(InvalidWish, (kind, fine), 2, (("most", fine), (kind, fine), ("other", fine)), fine)


if __name__ == "__main__":
    unittest.main()
