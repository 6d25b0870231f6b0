import random
import unittest

from exact import F, fractions, ladder_table, multiplied, random_ratio, random_scheme, table as numbers_of
from raising import Raising
from test_questions import NO_QUESTIONS, WIDE, asked
from test_tables import DEEP, NO_SCHEMAS, NO_TABLES, everyone
from walking import (
    AGE, ALL, COUNT, ILL, LONE, NOBODY, OLD, PAIR, QUAD, QUESTIONS, SCHEMA, SICK, TRIO, Reaching, answers_at, are_moved,
    drawn_questions, kept_row, random_release, tables,
)

from oneservesall.errors import (
    InvalidIndex, InvalidNumber, InvalidPair, InvalidQuestion, InvalidRatio, InvalidRelease, InvalidScheme,
    InvalidSchema, InvalidTable,
)
from oneservesall.releases import chance, is_release, ladder_release, outputs, read_release, release_factor

HALVES = (((1, 2), (1, 2)), ((1, 2), (1, 2)))
TOLD = (((2, 3), (1, 3)), ((1, 3), (2, 3)))
SURE = (((1, 1),),)
COIN = (COUNT, 0, 1, TOLD)
TABLE = ((1, 1), (9, 1), (5, 0))
NO_RELEASES = [
    7,
    "release",
    (),
    COUNT,
    TOLD,
    (COUNT, 0, 1),
    (COUNT, 0, 1, TOLD, TOLD),
    (TOLD, 0, 1, COUNT),
    (COUNT, 0, 1, ()),
    (COUNT, 0, 1, ((),)),
    (COUNT, 0, 1, ((), ())),
    (COUNT, 0, 1, (((1, 1),),)),
    (COUNT, 0, 1, TOLD + TOLD[:1]),
    (COUNT, 0, 0, TOLD),
    (COUNT, 0, 2, TOLD),
    (COUNT, 1, 0, TOLD),
    (COUNT, 1, 0, ()),
    (COUNT, 1, -1, TOLD),
    (COUNT, 2, 1, SURE),
    (COUNT, 0, -1, ()),
    (COUNT, "0", "1", TOLD),
    (COUNT, (0,), (1,), TOLD),
    (COUNT, (0, 1), (1, 1), TOLD),
    (COUNT, 0, 1, (((1, 2), (1, 2)), ((1, 3), (1, 3), (1, 3)))),
    (COUNT, 0, 1, (((1, 2), (1, 2)), ((1, 2), (1, 3)))),
    (COUNT, 0, 1, (((3, 2), (-1, 2)), ((1, 2), (1, 2)))),
    (COUNT, 0, 1, (((2, 4), (1, 2)), ((1, 2), (1, 2)))),
    (COUNT, 0, 1, (((1, 2), (1, 2)), 1)),
    (COUNT, 0, 1, (((1, 2), (1, 2)), (1, 0))),
    (COUNT, 0, 1, "ab"),
    (COUNT, 0, 1, DEEP),
    (COUNT, 0, 1, (DEEP, DEEP)),
    (COUNT, DEEP, 1, TOLD),
    (COUNT, 0, DEEP, TOLD),
    DEEP,
    (DEEP, DEEP, DEEP, DEEP),
    (COIN, 0, 1, TOLD),
    ("ask", COIN, (("end",), ("end",)), ()),
]


class IsReleaseTest(Raising, unittest.TestCase):
    def test_right_ones(self):
        for told in [COIN, (COUNT, 0, 0, SURE), (OLD, -1, 0, TOLD), (OLD, 10 ** 20, 10 ** 20 + 1, HALVES),
                     (("kept", COUNT, 0, 1), -10 ** 9, 1 - 10 ** 9, TOLD), (COUNT, 5, 5, (((1, 2), (1, 2)),)),
                     (COUNT, 0, 1, (((0, 1), (1, 1)), ((1, 1), (0, 1)))), (COUNT, 0, 19, (((1, 64),) * 64,) * 20)]:
            self.assertIs(is_release(SCHEMA, told), True, told)
            self.assertIs(is_release(told=told, schema=SCHEMA), True)

    def test_wrong_ones(self):
        for told in NO_RELEASES:
            self.assertIs(is_release(SCHEMA, told), False)
        for wrong in NO_QUESTIONS:
            self.assertIs(is_release(SCHEMA, (wrong, 0, 1, TOLD)), False)
        self.assertIs(is_release(WIDE, COIN), False)

    def test_drawn_ones(self):
        rng = random.Random(221)
        for _ in range(60):
            question = rng.choice(drawn_questions(rng, WIDE, 3))
            rows, low = rng.randint(1, 6), rng.randint(-9, 9)
            scheme = random_scheme(rng, rows, rng.randint(1, 5), True)
            for high in range(low - 1, low + 8):
                self.assertIs(is_release(WIDE, (question, low, high, scheme)), high - low + 1 == rows)

    def test_schemas(self):
        for wrong in NO_SCHEMAS:
            self.raises_lightly(InvalidSchema, wrong, is_release, wrong, (7,))


class OutputsTest(Raising, unittest.TestCase):
    def test_all_tables(self):
        rng = random.Random(222)
        for schema, questions in [(SCHEMA, QUESTIONS), (TRIO, drawn_questions(rng, TRIO, 20))]:
            for question in questions:
                release = random_release(rng, schema, question, rng.randint(1, 5), True)
                for table in [()] + tables(schema, 1) + tables(schema, 2):
                    expected = kept_row(schema, release, table)
                    self.assertEqual(outputs(schema, release, table), expected)
                    self.assertEqual(outputs(table=table, release=release, schema=schema), expected)
                    for output, x in enumerate(expected):
                        self.assertEqual(chance(schema, release, table, output), x)
                        self.assertEqual(chance(output=output, table=table, release=release, schema=schema), x)

    def test_answers_kept_in(self):
        rows = (((1, 1), (0, 1)), ((1, 2), (1, 2)), ((1, 3), (2, 3)))
        for low, expected in [(-9, 2), (-1, 2), (0, 2), (1, 1), (2, 0), (3, 0), (50, 0)]:
            self.assertEqual(outputs(SCHEMA, (COUNT, low, low + 2, rows), TABLE), rows[expected])
        self.assertEqual(outputs(SCHEMA, (COUNT, 0, 2, rows), ((1, 1),) * 12), rows[2])

    def test_wrong_inputs(self):
        for wrong in NO_SCHEMAS:
            self.raises_lightly(InvalidSchema, wrong, outputs, wrong, (7,), (7,))
            self.raises_lightly(InvalidSchema, wrong, chance, wrong, (7,), (7,), -1)
        for wrong in NO_RELEASES:
            self.raises_lightly(InvalidRelease, wrong, outputs, SCHEMA, wrong, (7,))
            self.raises_lightly(InvalidRelease, wrong, chance, SCHEMA, wrong, (7,), -1)
        for wrong in NO_TABLES:
            self.raises_lightly(InvalidTable, wrong, outputs, SCHEMA, COIN, wrong)
            self.raises_lightly(InvalidTable, wrong, chance, SCHEMA, COIN, wrong, -1)
        for wrong in (-1, 2, 10 ** 20):
            self.raises(InvalidIndex, wrong, chance, SCHEMA, COIN, TABLE, wrong)


class ReleaseFactorTest(Reaching, Raising, unittest.TestCase):
    def told_right(self, schema, release, n):
        chances = {table: dict(enumerate(kept_row(schema, release, table))) for table in tables(schema, n)}
        told = release_factor(schema, release, n)
        self.reaches_the_least(schema, chances, told, n)
        self.assertEqual(release_factor(n=n, release=release, schema=schema)[0], told[0])
        return told[0]

    def test_all_tables(self):
        rng = random.Random(223)
        found = []
        for schema, n in [(SCHEMA, 1), (SCHEMA, 2), (WIDE, 1), (WIDE, 2), (PAIR, 1), (PAIR, 4), (TRIO, 3), (QUAD, 2)]:
            questions = QUESTIONS if schema == SCHEMA else drawn_questions(rng, schema, 15)
            for question in questions:
                for zeros in (False, True):
                    release = random_release(rng, schema, question, rng.randint(1, 4), zeros)
                    found.append(self.told_right(schema, release, n))
        self.assertGreater(found.count(None), 10)
        self.assertGreater(found.count((1, 1)), 20)
        self.assertGreater(len(set(found)), 20)

    def test_the_most_tables(self):
        rng = random.Random(224)
        for question in (OLD, ("different", ALL, ("sum", AGE, ILL)), COUNT):
            self.told_right(SCHEMA, (question, 0, 4, random_scheme(rng, 5, 64)), 4)
        dozen = (("a", (-3, -2, -1, 0, 1, 2)), ("b", (0, 1)))
        self.told_right(dozen, (("sum", ALL, ("value", "a"), -2, 99), -5, 4, random_scheme(rng, 10, 10)), 3)

    def test_only_answers_that_neighbours_have_count(self):
        steep = (((1, 100), (99, 100)), ((1, 2), (1, 2)), ((1, 3), (2, 3)), ((99, 100), (1, 100)))
        self.assertEqual(release_factor(SCHEMA, (COUNT, 0, 3, steep), 1)[0], (50, 1))
        self.assertEqual(release_factor(SCHEMA, (COUNT, -1, 2, steep), 1)[0], (3, 2))
        self.assertEqual(release_factor(SCHEMA, (COUNT, -1, 2, steep), 2)[0], (200, 3))
        # No count is below 0, and so the rows ahead of that of 0 are never told.
        self.assertEqual(release_factor(SCHEMA, (COUNT, -3, 0, steep), 3)[0], (1, 1))
        self.assertEqual(release_factor(SCHEMA, (COUNT, 3, 6, steep), 2)[0], (1, 1))
        self.assertEqual(release_factor(SCHEMA, (COUNT, 3, 6, steep), 4)[0], (50, 1))
        # One person moves the sum by more than one row.
        self.assertEqual(release_factor(SCHEMA, (("sum", SICK, ("number", 3), 0, 3), 0, 3, steep), 1)[0], (99, 1))

    def test_chances_of_0(self):
        one_sided = (((0, 1), (1, 1)), ((1, 2), (1, 2)))
        factor, one, other, output = release_factor(SCHEMA, (COUNT, 0, 1, one_sided), 1)
        self.assertEqual((factor, one[0][1], other[0][1], output), (None, 1, 0, 0))
        factor, one, other, output = release_factor(SCHEMA, (COUNT, 0, 1, one_sided[::-1]), 1)
        self.assertEqual((factor, one[0][1], other[0][1], output), (None, 0, 1, 0))
        never = (((0, 1), (1, 3), (2, 3)), ((0, 1), (2, 3), (1, 3)))
        factor, one, other, output = release_factor(SCHEMA, (COUNT, 0, 1, never), 1)
        self.assertEqual(factor, (2, 1))
        self.assertIn((one[0][1], other[0][1], output), [(1, 0, 1), (0, 1, 2)])
        # A row that is never told may have what it likes.
        self.assertEqual(release_factor(SCHEMA, (COUNT, 0, 2, never + (((1, 1), (0, 1), (0, 1)),)), 1)[0], (2, 1))
        self.assertEqual(release_factor(SCHEMA, (COUNT, 0, 2, never + (((1, 1), (0, 1), (0, 1)),)), 2)[0], None)
        always_first = (COUNT, 0, 0, (((0, 1), (0, 1), (1, 1)),))
        factor, one, other, output = release_factor(SCHEMA, always_first, 2)
        self.assertEqual((factor, are_moved(one, other), output), ((1, 1), True, 2))

    def test_one_person_alone_can_be(self):
        for n in range(1, 5):
            first = ((4, 0),) * n
            for told in [(("count", ALL), 0, 1, TOLD), (("count", ALL), 0, 1, (((0, 1), (1, 1)), ((1, 1), (0, 1))))]:
                self.assertEqual(release_factor(LONE, told, n), ((1, 1), first, first, 0))

    def test_wrong_inputs(self):
        for wrong in NO_SCHEMAS:
            self.raises_lightly(InvalidSchema, wrong, release_factor, wrong, (7,), 0)
        for wrong in NO_RELEASES:
            self.raises_lightly(InvalidRelease, wrong, release_factor, SCHEMA, wrong, 0)
        for wrong in (0, -1, -10 ** 20):
            self.raises(InvalidNumber, wrong, release_factor, SCHEMA, COIN, wrong)


class ReadReleaseTest(Raising, unittest.TestCase):
    def test_by_mixed_readings(self):
        rng = random.Random(225)
        for _ in range(40):
            answers = rng.randint(1, 5)
            release = random_release(rng, SCHEMA, rng.choice(QUESTIONS), answers, True)
            mixed = random_scheme(rng, answers, rng.randint(1, 5), True)
            expected = numbers_of(multiplied(fractions(release[3]), fractions(mixed)))
            self.assertEqual(read_release(SCHEMA, release, mixed), release[:3] + (expected,))
            self.assertEqual(read_release(mixed=mixed, release=release, schema=SCHEMA), release[:3] + (expected,))
            self.assertIs(is_release(SCHEMA, read_release(SCHEMA, release, mixed)), True)

    def test_no_greater_factor(self):
        rng = random.Random(226)
        for _ in range(30):
            release = random_release(rng, SCHEMA, rng.choice(QUESTIONS), 3)
            read = read_release(SCHEMA, release, random_scheme(rng, 3, rng.randint(1, 4), True))
            self.assertLessEqual(F(*release_factor(SCHEMA, read, 2)[0]), F(*release_factor(SCHEMA, release, 2)[0]))

    def test_wrong_inputs(self):
        for wrong in NO_SCHEMAS:
            self.raises_lightly(InvalidSchema, wrong, read_release, wrong, (7,), (7,))
        for wrong in NO_RELEASES:
            self.raises_lightly(InvalidRelease, wrong, read_release, SCHEMA, wrong, (7,))
        for wrong in [(), (7,), ((),), (((1, 2), (1, 3)),), TOLD + (((1, 1),),), "ab", DEEP]:
            self.raises_lightly(InvalidScheme, wrong, read_release, SCHEMA, COIN, wrong)
        for mixed in (SURE, TOLD + TOLD[:1], TOLD + TOLD):
            self.raises(InvalidPair, (2, len(mixed)), read_release, SCHEMA, COIN, mixed)


class LadderReleaseTest(Raising, unittest.TestCase):
    def told_right(self, schema, question, n, ratio):
        at = answers_at(schema, question, n).values()
        low, high = min(at), max(at)
        expected = question, low, high, numbers_of(ladder_table(high - low, F(*ratio)))
        self.assertEqual(ladder_release(schema, question, n, ratio), expected)
        self.assertEqual(ladder_release(ratio=ratio, n=n, question=question, schema=schema), expected)
        self.assertIs(is_release(schema, expected), True)

    def test_ranges_of_questions(self):
        rng = random.Random(227)
        for n in (1, 2, 3):
            for question in QUESTIONS:
                at = answers_at(SCHEMA, question, n).values()
                if max(at) - min(at) < 10:
                    self.told_right(SCHEMA, question, n, random_ratio(rng, one=True))

    def test_edges(self):
        for ratio in ((1, 2), (1, 1), (99999988, 99999989), (1, 10 ** 8)):
            # Always alike, and just ten answers.
            self.told_right(SCHEMA, ("count", ALL), 3, ratio)
            self.told_right(SCHEMA, ("greatest", NOBODY, AGE, -4, 5), 2, ratio)
            self.told_right(SCHEMA, ("greatest", ALL, ("sum", AGE, ILL), 1, 99), 2, ratio)
            self.told_right(LONE, ("sum", ALL, ("value", "a"), 0, 9), 4, ratio)
        self.assertEqual(ladder_release(SCHEMA, ("count", ALL), 3, (1, 2)), (("count", ALL), 3, 3, SURE))
        self.assertEqual(ladder_release(SCHEMA, ("greatest", ALL, ("sum", AGE, ILL), 1, 99), 2, (1, 2))[1:3], (1, 10))

    def test_its_factor(self):
        for n in (1, 2, 3):
            self.assertEqual(release_factor(SCHEMA, ladder_release(SCHEMA, COUNT, n, (2, 3)), n)[0], (3, 2))
            self.assertEqual(release_factor(SCHEMA, ladder_release(SCHEMA, COUNT, n, (1, 1)), n)[0], (1, 1))
        told = ladder_release(SCHEMA, ("greatest", ALL, AGE, 1, 9), 2, (1, 2))
        self.assertEqual(release_factor(SCHEMA, told, 2)[0], (256, 1))

    def test_wrong_inputs(self):
        for wrong in NO_SCHEMAS:
            self.raises_lightly(InvalidSchema, wrong, ladder_release, wrong, (7,), 0, 7)
        for wrong in NO_QUESTIONS:
            self.raises_lightly(InvalidQuestion, wrong, ladder_release, SCHEMA, wrong, 0, 7)
        for wrong in (0, -1, -10 ** 20):
            self.raises(InvalidNumber, wrong, ladder_release, SCHEMA, COUNT, wrong, (2, 1))
        for wrong in ((0, 1), (-1, 2), (3, 2), (2, 4), (1, 0), (1, -2), (1,)):
            self.raises(InvalidRatio, wrong, ladder_release, SCHEMA, COUNT, 1, wrong)

    def test_answers_of_all_tables_have_rows(self):
        told = ladder_release(SCHEMA, OLD, 1, (1, 3))
        for person in everyone(SCHEMA):
            self.assertEqual(outputs(SCHEMA, told, (person,)), told[3][asked(SCHEMA, OLD, (person,)) - told[1]])


if __name__ == "__main__":
    unittest.main()
