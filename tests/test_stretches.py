import random
import unittest

from raising import Raising
from test_questions import NO_QUESTIONS, WIDE, asked
from test_tables import NO_SCHEMAS, NO_TABLES
from walking import (
    AGE, ALL, COUNT, ILL, LONE, NOBODY, OLD, PAIR, QUAD, QUESTIONS, SCHEMA, SICK, TRIO, answers_at, are_moved,
    drawn_questions, moved,
)

from oneservesall.errors import InvalidNumber, InvalidPaper, InvalidQuestion, InvalidSchema
from oneservesall.stretches import is_stretch, pairs, row_stretch, stretch

PLACES = [(SCHEMA, 1), (SCHEMA, 2), (WIDE, 1), (WIDE, 2), (PAIR, 1), (PAIR, 3), (PAIR, 4), (TRIO, 3), (QUAD, 3)]


def questions_of(rng, schema):
    return QUESTIONS if schema == SCHEMA else drawn_questions(rng, schema, 12)


class StretchTest(Raising, unittest.TestCase):
    def told_right(self, schema, question, n):
        at = answers_at(schema, question, n)
        expected = max(abs(at[one] - at[other]) for one, other in moved(schema, n))
        told = stretch(schema, question, n)
        distance, one, other = told
        self.assertIs(type(told), tuple)
        self.assertEqual(distance, expected)
        self.assertIs(type(distance), int)
        self.assertTrue(len(one) == len(other) == n and are_moved(one, other))
        self.assertEqual(abs(asked(schema, question, one) - asked(schema, question, other)), distance)
        self.assertIs(is_stretch(schema, question, n, told), True)
        self.assertEqual(stretch(n=n, question=question, schema=schema)[0], expected)

    def test_all_tables(self):
        rng = random.Random(211)
        for schema, n in PLACES:
            for question in questions_of(rng, schema):
                self.told_right(schema, question, n)

    def test_the_most_tables(self):
        for question in (OLD, ("different", ALL, ("sum", AGE, ILL)), ("greatest", ALL, ("less", ILL, AGE), -8, -1)):
            self.told_right(SCHEMA, question, 4)
        dozen = (("a", (-3, -2, -1, 0, 1, 2)), ("b", (0, 1)))
        self.told_right(dozen, ("sum", ("is", ("value", "b"), ("number", 1)), ("value", "a"), -2, 99), 3)

    def test_known_ones(self):
        for n in range(1, 5):
            self.assertEqual(stretch(SCHEMA, OLD, n)[0], 6)
            self.assertEqual(stretch(SCHEMA, COUNT, n)[0], 1)
            self.assertEqual(stretch(SCHEMA, ("count", ALL), n)[0], 0)
            self.assertEqual(stretch(SCHEMA, ("different", NOBODY, AGE), n)[0], 0)
            self.assertEqual(stretch(SCHEMA, ("different", ALL, AGE), n)[0], 0 if n == 1 else 1)
            self.assertEqual(stretch(SCHEMA, ("greatest", ALL, AGE, -50, 8), n)[0], 7)
            self.assertEqual(stretch(SCHEMA, ("kept", OLD, 6 * n - 1, 6 * n), n)[0], 1)

    def test_one_person_alone_can_be(self):
        for n in range(1, 5):
            first = ((4, 0),) * n
            for question in (("count", ALL), ("sum", ALL, ("value", "a"), 0, 99),
                             ("different", NOBODY, ("value", "a"))):
                self.assertEqual(stretch(LONE, question, n), (0, first, first))

    def test_wrong_inputs(self):
        for wrong in NO_SCHEMAS:
            self.raises_lightly(InvalidSchema, wrong, stretch, wrong, (7,), 0)
        for wrong in NO_QUESTIONS:
            self.raises_lightly(InvalidQuestion, wrong, stretch, SCHEMA, wrong, 0)
        for wrong in (0, -1, -10 ** 20):
            self.raises(InvalidNumber, wrong, stretch, SCHEMA, COUNT, wrong)


class PairsTest(Raising, unittest.TestCase):
    def told_right(self, schema, question, n):
        at = answers_at(schema, question, n)
        expected = sorted({tuple(sorted((at[one], at[other]))) for one, other in moved(schema, n)})
        found = pairs(schema, question, n)
        self.assertEqual(found, expected)
        self.assertIs(type(found), list)
        self.assertEqual(pairs(n=n, question=question, schema=schema), expected)

    def test_all_tables(self):
        rng = random.Random(212)
        for schema, n in PLACES:
            for question in questions_of(rng, schema):
                self.told_right(schema, question, n)

    def test_known_ones(self):
        for n in range(1, 5):
            expected = sorted([(k, k) for k in range(n + 1)] + [(k, k + 1) for k in range(n)])
            self.assertEqual(pairs(SCHEMA, COUNT, n), expected)
            self.assertEqual(pairs(SCHEMA, ("count", ALL), n), [(n, n)])
        # Of two persons there is no other one with the same answer, of three neither.
        self.assertEqual(pairs(PAIR, ("sum", ALL, ("value", "a"), -9, 9), 1), [(-7, 3)])
        self.assertEqual(pairs(PAIR, ("sum", ALL, ("value", "a"), -9, 9), 2), [(-14, -4), (-4, 6)])
        self.assertEqual(pairs(TRIO, ("sum", ALL, ("value", "a"), -9, 9), 1), [(-2, 0), (-2, 9), (0, 9)])

    def test_one_person_alone_can_be(self):
        for n in range(1, 5):
            self.assertEqual(pairs(LONE, ("count", ALL), n), [])

    def test_each_list_is_new(self):
        for schema in (SCHEMA, LONE):
            expected = list(pairs(schema, ("count", ALL), 2))
            pairs(schema, ("count", ALL), 2).append((7, 7))
            self.assertEqual(pairs(schema, ("count", ALL), 2), expected)

    def test_wrong_inputs(self):
        for wrong in NO_SCHEMAS:
            self.raises_lightly(InvalidSchema, wrong, pairs, wrong, (7,), 0)
        for wrong in NO_QUESTIONS:
            self.raises_lightly(InvalidQuestion, wrong, pairs, SCHEMA, wrong, 0)
        for wrong in (0, -1, -10 ** 20):
            self.raises(InvalidNumber, wrong, pairs, SCHEMA, COUNT, wrong)


class RowStretchTest(Raising, unittest.TestCase):
    def told_right(self, schema, questions, n):
        at = [answers_at(schema, question, n) for question in questions]
        expected = max(sum(abs(told[one] - told[other]) for told in at) for one, other in moved(schema, n))
        self.assertEqual(row_stretch(schema, questions, n), expected)
        self.assertEqual(row_stretch(n=n, questions=questions, schema=schema), expected)
        return expected, sum(max(abs(told[one] - told[other]) for one, other in moved(schema, n)) for told in at)

    def test_all_tables(self):
        rng = random.Random(213)
        less = 0
        for schema, n in PLACES:
            for many in (1, 2, 3):
                for _ in range(4):
                    questions = tuple(rng.sample(questions_of(rng, schema), many))
                    expected, bound = self.told_right(schema, questions, n)
                    less += expected < bound
        # Rows that are less than their questions' stretches together: one move seldom does it all.
        self.assertGreater(less, 0)

    def test_known_ones(self):
        young = ("sum", ("not", SICK), ("less", ("number", 9), AGE), 0, 99)
        for n in range(1, 5):
            self.assertEqual(row_stretch(SCHEMA, (COUNT, OLD), n), 7)
            self.assertEqual(row_stretch(SCHEMA, (COUNT, COUNT), n), 2)
            self.assertEqual(row_stretch(SCHEMA, (COUNT,) * 5 + (OLD,), n), 11)
            self.assertEqual(row_stretch(SCHEMA, (OLD, young), n), 14)
            self.assertEqual(row_stretch(SCHEMA, (COUNT, ("count", ("not", SICK))), n), 2)

    def test_edges(self):
        for n in range(1, 5):
            self.assertEqual(row_stretch(SCHEMA, (), n), 0)
            self.assertEqual(row_stretch(LONE, (), n), 0)
            self.assertEqual(row_stretch(LONE, (("count", ALL), ("sum", ALL, ("value", "a"), 0, 9)), n), 0)

    def test_wrong_inputs(self):
        for wrong in NO_SCHEMAS:
            self.raises_lightly(InvalidSchema, wrong, row_stretch, wrong, ((7,),), 0)
            self.raises_lightly(InvalidSchema, wrong, row_stretch, wrong, (), 0)
        for wrong in NO_QUESTIONS:
            self.raises_lightly(InvalidQuestion, wrong, row_stretch, SCHEMA, (wrong,), 0)
            self.raises_lightly(InvalidQuestion, wrong, row_stretch, SCHEMA, (COUNT, wrong, (7,)), 0)
        for wrong in (0, -1, -10 ** 20):
            self.raises(InvalidNumber, wrong, row_stretch, SCHEMA, (COUNT, OLD), wrong)
            self.raises(InvalidNumber, wrong, row_stretch, SCHEMA, (), wrong)


class IsStretchTest(Raising, unittest.TestCase):
    def test_all_told_ones(self):
        """Every distance with any two tables is judged as a walk over all neighbours has it."""
        rng = random.Random(214)
        for schema, n in [(SCHEMA, 1), (PAIR, 1), (PAIR, 2), (PAIR, 3), (TRIO, 2), (QUAD, 1), (LONE, 1), (LONE, 3)]:
            for question in (drawn_questions(rng, schema, 3) if schema != SCHEMA else [OLD, COUNT, ("count", ALL)]):
                at = answers_at(schema, question, n)
                most = max([abs(at[one] - at[other]) for one, other in moved(schema, n)], default=None)
                for one in at:
                    for other in at:
                        there = are_moved(one, other) and abs(at[one] - at[other]) == most
                        for distance in (-1, 0, 1, most or 0, (most or 0) + 1, abs(at[one] - at[other])):
                            expected = distance == 0 if most is None else there and distance == most
                            self.assertIs(is_stretch(schema, question, n, (distance, one, other)), expected)

    def test_told_otherwise(self):
        one, other, third = ((1, 0), (9, 1)), ((1, 0), (9, 0)), ((1, 0), (5, 1))
        for told, expected in [((6, one, other), True), ((6, other, one), True), ((6, one[::-1], other[::-1]), True),
                               ((6, one, other[::-1]), False), ((5, one, other), False), ((7, one, other), False),
                               ((-6, one, other), False), ((0, one, one), False), ((6, one, one), False),
                               ((1, one, third), False), ((6, one, third), False),
                               ((6, ((1, 1), (9, 1)), other), False), ((6, ((5, 0), (9, 1)), ((5, 0), (1, 0))), True)]:
            self.assertIs(is_stretch(SCHEMA, OLD, 2, told), expected)
            self.assertIs(is_stretch(told=told, n=2, question=OLD, schema=SCHEMA), expected)
        flat = ("count", ALL)
        for told, expected in [((0, one, other), True), ((0, one, third), True), ((0, one, one), False),
                               ((0, one, ((5, 1), (1, 1))), False), ((1, one, other), False)]:
            self.assertIs(is_stretch(SCHEMA, flat, 2, told), expected)

    def test_one_person_alone_can_be(self):
        first = ((4, 0), (4, 0))
        for distance in (-1, 0, 1):
            self.assertIs(is_stretch(LONE, ("count", ALL), 2, (distance, first, first)), distance == 0)

    def test_wrong_inputs(self):
        table = ((1, 0), (9, 1))
        for wrong in NO_SCHEMAS:
            self.raises_lightly(InvalidSchema, wrong, is_stretch, wrong, (7,), 0, (7,))
        for wrong in NO_QUESTIONS:
            self.raises_lightly(InvalidQuestion, wrong, is_stretch, SCHEMA, wrong, 0, (7,))
        for wrong in (0, -1, -10 ** 20):
            self.raises(InvalidNumber, wrong, is_stretch, SCHEMA, COUNT, wrong, (7,))
        for wrong in [7, "abc", (), (0,), (0, table), (0, table, table, table), (table, table, 0), ("0", table, table),
                      ((0, 1), table, table), (0, table, ()), (0, (), table), (0, (), ()), (0, table[:1], table[:1]),
                      (0, table, table + table[:1]), (0, table + table, table + table), (0, 2, table)]:
            self.raises(InvalidPaper, wrong, is_stretch, SCHEMA, COUNT, 2, wrong)
        for wrong in NO_TABLES:
            for told in [(0, table, wrong), (0, wrong, table)]:
                self.raises_lightly(InvalidPaper, told, is_stretch, SCHEMA, COUNT, 2, told)


if __name__ == "__main__":
    unittest.main()
