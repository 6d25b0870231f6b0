import random
import unittest

from exact import F, fractions, ladder_table, long_row, multiplied, pair, random_ratio, random_row, table
from raising import Raising
from test_schemes import NO_SCHEMES

from oneservesall.errors import InvalidPair, InvalidPaper, InvalidScheme
from oneservesall.ladders import ladder
from oneservesall.makes import as_good, is_made, made_of
from oneservesall.readings import mixed_of
from oneservesall.schemes import is_scheme, read_by

TOLD = (((2, 3), (1, 3)), ((1, 3), (2, 3)))
BLIND = (((1, 2), (1, 2)),) * 2
SURE = (((1, 1), (0, 1)), ((0, 1), (1, 1)))
SAME = (((0, 1), (1, 1)), ((1, 1), (0, 1)))
LITTLE = F(1, 10 ** 40)


def is_right(one, other, told):
    """What the document says of both kinds of answer, multiplied out apart from the program."""
    one, other, rows = fractions(one), fractions(other), fractions(told[1])
    if told[0] == "made":
        return multiplied(one, rows) == other
    served = sum(x * y for row, beside in zip(other, rows) for x, y in zip(row, beside))
    columns = list(zip(*rows))
    least = sum(min(sum(x * y for x, y in zip(answer, column)) for column in columns) for answer in zip(*one))
    return served < least


def drawn(rng, rows, answers, zeros=0.3):
    return [random_row(rng, answers, rng.random() < zeros) for _ in range(rows)]


class MakesCase(Raising, unittest.TestCase):
    def told(self, one, other):
        told = made_of(one, other)
        self.assertIs(type(told), tuple)
        self.assertEqual(len(told), 2)
        self.assertIn(told[0], ("made", "parted"))
        rows, answers = (len(one[0]) if told[0] == "made" else len(one)), len(other[0])
        self.assertEqual([len(row) for row in told[1]], [answers] * rows)
        if told[0] == "made":
            self.assertIs(is_scheme(told[1]), True)
            self.assertEqual(read_by(one, told[1]), other)
        self.assertIs(is_right(one, other, told), True)
        self.assertIs(is_made(one, other, told), True)
        return told


class MadeOfTest(MakesCase):
    def test_by_name(self):
        self.assertEqual(made_of(other=BLIND, one=TOLD), made_of(TOLD, BLIND))
        self.assertIs(is_made(told=("made", SURE), other=TOLD, one=TOLD), True)
        self.assertEqual(as_good(other=BLIND, one=TOLD), "one")

    def test_what_was_made_by_a_mixed_reading(self):
        rng = random.Random(141)
        for _ in range(60):
            rows, answers, others = rng.randint(1, 5), rng.randint(1, 5), rng.randint(1, 5)
            one = drawn(rng, rows, answers)
            other = multiplied(one, drawn(rng, answers, others))
            self.assertEqual(self.told(table(one), table(other))[0], "made")

    def test_drawn_schemes(self):
        rng = random.Random(142)
        found = {"made": 0, "parted": 0}
        for _ in range(150):
            rows, answers, others = rng.randint(1, 3), rng.randint(1, 4), rng.randint(1, 4)
            told = self.told(table(drawn(rng, rows, answers)), table(drawn(rng, rows, others)))
            found[told[0]] += 1
        self.assertTrue(min(found.values()) > 30)

    def test_just_and_just_not(self):
        # A coin that lies with chance 1/3 makes all that lie more, and none that lies a little less.
        for lie in (F(1, 3) + LITTLE, F(1, 3), F(1, 3) - LITTLE, F(2, 3), F(2, 3) + LITTLE, 0):
            other = table([[1 - lie, lie], [lie, 1 - lie]])
            expected = "made" if F(1, 3) <= lie <= F(2, 3) else "parted"
            self.assertEqual(self.told(TOLD, other)[0], expected)

    def test_the_ladder_makes_its_readings_alone(self):
        rng = random.Random(143)
        for n in range(1, 5):
            ratio = random_ratio(rng)
            mixed = drawn(rng, n + 1, rng.randint(1, 5))
            made = table(multiplied(ladder_table(n, F(*ratio)), mixed))
            self.assertEqual(self.told(ladder(n, ratio), made), ("made", mixed_of(made, ratio)))
            # A ladder of a greater ratio tells less.
            less = (2 * ratio[0], 2 * ratio[0] + ratio[1])
            less = pair(F(*less)) if F(*less) > F(*ratio) else (1, 1)
            self.assertEqual(self.told(ladder(n, ratio), ladder(n, less))[0], "made")
            self.assertEqual(self.told(ladder(n, less), ladder(n, ratio))[0], "parted")
        bent = table([[F(1, 2), F(1, 2)], [F(1, 4), F(3, 4)], [F(1, 2), F(1, 2)]])
        self.assertEqual(self.told(ladder(2, (1, 2)), bent)[0], "parted")

    def test_a_bend_of_next_to_nothing(self):
        for little in (0, LITTLE, -LITTLE):
            column = [F(1, 2), F(2, 5) - little, F(1, 2)]
            other = table([[x, 1 - x] for x in column])
            self.assertEqual(self.told(ladder(2, (1, 2)), other)[0], "made" if little <= 0 else "parted")

    def test_edges(self):
        # One row, one answer, answers that never come, rows alike, an answer in one of two rows alone.
        one_row = table([[F(1, 4), F(3, 4)]])
        one_answer = (((1, 1),),) * 3
        never = table([[F(1, 2), 0, F(1, 2)], [F(1, 4), 0, F(3, 4)]])
        self.assertEqual(self.told(one_row, table([[F(1, 3), 0, F(2, 3)]]))[0], "made")
        self.assertEqual(self.told((((1, 1),),), one_row)[0], "made")
        self.assertEqual(self.told(one_row, (((1, 1),),)), ("made", (((1, 1),),) * 2))
        self.assertEqual(self.told(one_answer, one_answer), ("made", (((1, 1),),)))
        self.assertEqual(self.told(ladder(2, (1, 2)), one_answer)[0], "made")
        self.assertEqual(self.told(one_answer, ladder(2, (1, 2)))[0], "parted")
        self.assertEqual(self.told(one_answer, ladder(2, (1, 1)))[0], "made")
        self.assertEqual(self.told(never, never)[0], "made")
        self.assertEqual(self.told(never, table([[F(1, 2), F(1, 2)], [F(1, 4), F(3, 4)]]))[0], "made")
        self.assertEqual(self.told(table([[F(1, 2), F(1, 2)], [F(1, 4), F(3, 4)]]), never)[0], "made")
        self.assertEqual(self.told(BLIND, never)[0], "parted")
        self.assertEqual(self.told(SURE, never)[0], "made")
        self.assertEqual(self.told(never, SURE)[0], "parted")
        self.assertEqual(self.told(SURE, SAME), ("made", SAME))
        alone = table([[F(1, 3), F(2, 3)], [0, 1]])
        self.assertEqual(self.told(alone, TOLD)[0], "parted")
        self.assertEqual(self.told(TOLD, alone)[0], "parted")
        for x, y in [(F(1, 4), 0), (F(1, 4), LITTLE), (F(1, 3), 0), (F(1, 3), LITTLE), (F(1, 3) + LITTLE / 2, LITTLE)]:
            self.assertEqual(self.told(alone, table([[x, 1 - x], [y, 1 - y]]))[0], "made")
        for x, y in [(F(1, 3) + LITTLE, 0), (F(1, 3) + LITTLE, LITTLE), (F(2, 3), F(1, 3))]:
            self.assertEqual(self.told(alone, table([[x, 1 - x], [y, 1 - y]]))[0], "parted")

    def test_numbers_of_eight_figures_and_what_is_told_of_them(self):
        rng = random.Random(144)
        for answers, others in [(5, 5), (5, 3), (3, 5), (1, 5), (5, 1)]:
            one = [long_row(rng, answers) for _ in range(5)]
            mixed = [long_row(rng, others) for _ in range(answers)]
            made = table(multiplied(one, mixed))
            told = self.told(table(one), made)
            self.assertEqual(told[0], "made")
            again = self.told(table(one), read_by(table(one), told[1]))
            self.assertEqual(again[0], "made")
            other = table([long_row(rng, others) for _ in range(5)])
            told = self.told(table(one), other)
            self.assertEqual(told[0], "made" if others == 1 else "parted")
            self.assertIs(is_made(table(one), made, told), others == 1)

    def test_wrong_inputs(self):
        for function in (made_of, as_good):
            for wrong in NO_SCHEMES:
                self.raises(InvalidScheme, wrong, function, wrong, ())
                self.raises(InvalidScheme, wrong, function, ladder(4, (1, 2)), wrong)
            self.raises(InvalidPair, (2, 3), function, TOLD, ladder(2, (1, 2)))
            self.raises(InvalidPair, (2, 1), function, TOLD, (((1, 1),),))


class IsMadeTest(MakesCase):
    def test_a_made_one_bent(self):
        self.assertIs(is_made(TOLD, BLIND, ("made", BLIND)), True)
        self.assertIs(is_made(TOLD, TOLD, ("made", BLIND)), False)
        self.assertIs(is_made(TOLD, TOLD, ("made", SAME)), False)
        for k in range(2):
            for by in (LITTLE, F(1, 2)):
                rows = [[F(1), F(0)], [F(0), F(1)]]
                rows[k][k] -= by
                rows[k][1 - k] += by
                self.assertIs(is_made(TOLD, TOLD, ("made", table(rows))), False)
        # A reading of an answer that never comes does not matter.
        never = table([[F(1, 2), 0, F(1, 2)], [F(1, 4), 0, F(3, 4)]])
        for row in ([1, 0], [0, 1], [F(1, 3), F(2, 3)]):
            told = ("made", table([[1, 0], row, [0, 1]]))
            self.assertIs(is_made(never, table([[F(1, 2), F(1, 2)], [F(1, 4), F(3, 4)]]), told), True)

    def test_a_table_bent(self):
        parted = table([[0, 1], [1, 0]])
        self.assertIs(is_made(BLIND, TOLD, ("parted", parted)), True)
        self.assertIs(is_made(BLIND, TOLD, ("parted", table([[1, 0], [0, 1]]))), False)
        self.assertIs(is_made(BLIND, TOLD, ("parted", table([[-3, -2], [8, 7]]))), True)
        # As much for the one as for the other parts nothing.
        self.assertIs(is_made(BLIND, TOLD, ("parted", table([[0, 0], [0, 0]]))), False)
        self.assertIs(is_made(BLIND, TOLD, ("parted", table([[0, 0], [1, 0]]))), False)
        self.assertIs(is_made(TOLD, BLIND, ("parted", parted)), False)
        # The blind one always tells the cheaper count, at 1; the other one costs 1/3 + x/3.
        for x, expected in [(2, False), (2 - LITTLE, True), (F(3, 2), True)]:
            self.assertIs(is_made(BLIND, TOLD, ("parted", table([[0, 1], [x, 0]]))), expected)

    def test_drawn_tables_and_readings(self):
        rng = random.Random(145)
        found = {}
        for _ in range(300):
            rows, answers, others = rng.randint(1, 3), rng.randint(1, 3), rng.randint(1, 3)
            one, other = table(drawn(rng, rows, answers)), table(drawn(rng, rows, others))
            if rng.random() < 0.5:
                told = ("parted", table([[rng.randint(-3, 3) for _ in range(others)] for _ in range(rows)]))
            else:
                told = ("made", table(drawn(rng, answers, others)))
                if rng.random() < 0.5:
                    other = table(multiplied(fractions(one), fractions(told[1])))
            expected = is_right(one, other, told)
            found[told[0], expected] = 1
            self.assertIs(is_made(one, other, told), expected)
        self.assertEqual(len(found), 4)

    def test_bends_of_told_ones(self):
        rng = random.Random(146)
        for _ in range(60):
            rows, answers, others = rng.randint(1, 4), rng.randint(1, 4), rng.randint(1, 4)
            one, other = table(drawn(rng, rows, answers)), table(drawn(rng, rows, others))
            word, told = made_of(one, other)
            if word == "parted":
                bent = fractions(told)
                bent[rng.randrange(rows)][rng.randrange(others)] += rng.choice((-1, 1)) * F(rng.randint(1, 9))
            else:
                bent = fractions(told)
                bent[rng.randrange(answers)] = random_row(rng, others)
            self.assertIs(is_made(one, other, (word, table(bent))), is_right(one, other, (word, table(bent))))

    def test_other_forms_and_sizes(self):
        two_by_three = (((1, 3), (1, 3), (1, 3)),) * 2
        for wrong in [
            (),
            ("made",),
            ("parted",),
            ("made", SURE, SURE),
            ("parted", SURE, SURE),
            ("both", SURE),
            ("", SURE),
            ("made", ()),
            ("made", SURE[:1]),
            ("made", SURE + SURE[:1]),
            ("made", two_by_three),
            ("made", (((1, 1),), ((1, 1),))),
            ("made", (((1, 2), (1, 3)), SURE[1])),
            ("made", (((3, 2), (-1, 2)), SURE[1])),
            ("made", (((2, 4), (1, 2)), SURE[1])),
            ("parted", ()),
            ("parted", SURE[:1]),
            ("parted", SURE + SURE[:1]),
            ("parted", two_by_three),
            ("parted", (SURE[0], ((1, 1),))),
            ("parted", (SURE[0], ((1, 1), (2, 4)))),
            ("parted", (SURE[0], ((1, 1), (2, 0)))),
            ("parted", (SURE[0], ())),
            ("parted", (SURE[0], 7)),
            ("parted", 7),
            ("made", 7),
            (7, SURE),
            (SURE, "made"),
            "made",
            7,
        ]:
            self.raises(InvalidPaper, wrong, is_made, TOLD, BLIND, wrong)

    def test_sizes_of_unlike_many_answers(self):
        three, flat = ladder(2, (1, 2)), (((1, 2), (1, 2)),) * 3
        mixed, square = flat, (((1, 3), (1, 3), (1, 3)),) * 3
        self.assertIs(is_made(three, flat, ("made", mixed)), True)
        self.raises(InvalidPaper, ("made", square), is_made, three, flat, ("made", square))
        self.raises(InvalidPaper, ("made", flat[:2]), is_made, three, flat, ("made", flat[:2]))
        self.raises(InvalidPaper, ("parted", square), is_made, three, flat, ("parted", square))
        self.assertIs(is_made(three, flat, ("parted", flat)), False)
        wide = (((1, 3), (1, 3), (1, 3)),) * 2
        self.assertIs(is_made(flat, square, ("made", wide)), True)
        self.raises(InvalidPaper, ("made", square), is_made, flat, square, ("made", square))
        self.assertIs(is_made(flat, three, ("parted", table([[0, 1, 1], [1, 0, 1], [1, 1, 0]]))), True)

    def test_wrong_inputs(self):
        for wrong in NO_SCHEMES:
            self.raises(InvalidScheme, wrong, is_made, wrong, (), ())
            self.raises(InvalidScheme, wrong, is_made, ladder(4, (1, 2)), wrong, ())
        self.raises(InvalidPair, (2, 3), is_made, TOLD, ladder(2, (1, 2)), ())
        self.raises(InvalidPair, (1, 2), is_made, (((1, 1),),), TOLD, ("made", SURE))


class AsGoodTest(MakesCase):
    def test_each_word(self):
        self.assertEqual(as_good(TOLD, BLIND), "one")
        self.assertEqual(as_good(BLIND, TOLD), "other")
        self.assertEqual(as_good(TOLD, TOLD), "both")
        self.assertEqual(as_good(TOLD, tuple(row[::-1] for row in TOLD)), "both")
        self.assertEqual(as_good(BLIND, (((1, 1),),) * 2), "both")
        split = table([[F(1, 3), F(1, 3), F(1, 3)], [F(1, 6), F(1, 6), F(2, 3)]])
        self.assertEqual(as_good(TOLD, split), "both")
        alone = table([[F(1, 3), F(2, 3)], [0, 1]])
        self.assertEqual(as_good(TOLD, alone), "neither")
        self.assertEqual(as_good(alone, TOLD), "neither")
        self.assertEqual(as_good((((1, 1),),), (((1, 2), (1, 2)),)), "both")

    def test_by_what_can_be_made(self):
        rng = random.Random(147)
        words = {(True, True): "both", (True, False): "one", (False, True): "other", (False, False): "neither"}
        found = set()
        for _ in range(60):
            rows, answers, others = rng.randint(1, 3), rng.randint(1, 3), rng.randint(1, 3)
            one = drawn(rng, rows, answers)
            other = multiplied(one, drawn(rng, answers, others)) if rng.random() < 0.4 else drawn(rng, rows, others)
            one, other = rng.sample((table(one), table(other)), 2)
            expected = words[self.told(one, other)[0] == "made", self.told(other, one)[0] == "made"]
            found.add(expected)
            self.assertEqual(as_good(one, other), expected)
        self.assertEqual(found, set(words.values()))


if __name__ == "__main__":
    unittest.main()
