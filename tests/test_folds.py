import random
import unittest

from raising import Raising
from test_questions import NO_QUESTIONS, WIDE, asked, nested, summed
from test_tables import DEEP, NO_PERSONS, NO_SCHEMAS, NO_TABLES, TWELVE, everyone
from walking import (
    AGE, ALL, COUNT, ILL, LONE, NOBODY, OLD, PAIR, QUAD, QUESTIONS, SCHEMA, SICK, TRIO, drawn_questions, standing_at,
    tables,
)

from oneservesall.errors import InvalidNumber, InvalidPerson, InvalidQuestion, InvalidSchema, InvalidTable
from oneservesall.folds import alike, begun, standing, standings, stepped, told_by

AGES = ("different", SICK, AGE)
OLDEST = ("greatest", SICK, AGE, 2, 6)


def wrapped(question):
    """The question itself, and within some of "kept" and "part", which leave its standing as it is."""
    within = ("part", ("kept", ("part", question, 2), 0, 9), 4)
    return [question, ("kept", question, 1, 2), ("part", question, 3), within]


class BegunTest(Raising, unittest.TestCase):
    def test_each_kind(self):
        for told, expected in [(COUNT, 0), (OLD, 0), (("sum", ALL, AGE, 3, 6), 0), (("sum", ALL, AGE, -9, -3), 0),
                               (OLDEST, 2), (("greatest", ALL, AGE, -7, -7), -7), (AGES, ())]:
            for question in wrapped(told):
                self.assertEqual(begun(SCHEMA, question), expected)
                self.assertEqual(begun(question=question, schema=SCHEMA), expected)

    def test_wrong_inputs(self):
        for wrong in NO_SCHEMAS:
            self.raises_lightly(InvalidSchema, wrong, begun, wrong, (7,))
        for wrong in NO_QUESTIONS + [("count", summed(27)), ("different", ALL, nested(8))]:
            self.raises_lightly(InvalidQuestion, wrong, begun, SCHEMA, wrong)


class SteppedTest(Raising, unittest.TestCase):
    def test_each_kind(self):
        for told, ahead, person, expected in [
                (COUNT, 4, (5, 1), 5), (COUNT, 4, (5, 0), 4), (OLD, 4, (5, 1), 9), (OLD, 4, (9, 1), 10),
                (OLD, 4, (9, 0), 4), (("sum", ALL, AGE, 6, 7), 0, (1, 0), 6),
                (("sum", ALL, AGE, -7, -6), 3, (1, 0), -3),
                (OLDEST, 2, (5, 1), 5), (OLDEST, 2, (9, 1), 6), (OLDEST, 6, (5, 1), 6), (OLDEST, 2, (1, 1), 2),
                (OLDEST, 5, (9, 0), 5), (AGES, (), (5, 1), (5,)), (AGES, (), (5, 0), ()),
                (AGES, (1, 9), (5, 1), (1, 5, 9)),
                (AGES, (1, 9), (9, 1), (1, 9)), (AGES, (5,), (1, 1), (1, 5)), (AGES, (5,), (9, 1), (5, 9)),
                (("different", ALL, ("less", ILL, AGE)), (-4, 0), (9, 0), (-9, -4, 0))]:
            for question in wrapped(told):
                self.assertEqual(stepped(SCHEMA, question, ahead, person), expected)
                self.assertEqual(stepped(person=person, standing=ahead, question=question, schema=SCHEMA), expected)

    def test_wrong_inputs(self):
        for wrong in NO_SCHEMAS:
            self.raises_lightly(InvalidSchema, wrong, stepped, wrong, (7,), 0, (7,))
        for wrong in NO_QUESTIONS:
            self.raises_lightly(InvalidQuestion, wrong, stepped, SCHEMA, wrong, 0, (7,))
        for wrong in NO_PERSONS:
            self.raises_lightly(InvalidPerson, wrong, stepped, SCHEMA, COUNT, 0, wrong)


class StandingTest(Raising, unittest.TestCase):
    def test_person_by_person_in_several_sequences(self):
        rng = random.Random(201)
        for schema, questions in [(SCHEMA, QUESTIONS), (WIDE, drawn_questions(rng, WIDE, 60))]:
            for question in questions:
                for many in (0, 1, 2, 5, 12):
                    table = tuple(rng.choice(everyone(schema)) for _ in range(many))
                    expected = standing_at(schema, question, table)
                    for sequence in (table, table[::-1], tuple(rng.sample(table, many))):
                        found = begun(schema, question)
                        for person in sequence:
                            found = stepped(schema, question, found, person)
                        self.assertEqual(found, expected)
                        self.assertEqual(standing(schema, question, sequence), expected)
                    self.assertEqual(standing(table=table, question=question, schema=schema), expected)
                    self.assertEqual(told_by(schema, question, expected), asked(schema, question, table))
                    self.assertEqual(told_by(standing=found, question=question, schema=schema),
                                     asked(schema, question, table))

    def test_known_ones(self):
        table = ((9, 1), (1, 1), (9, 1), (5, 0))
        for question, expected, answer in [(COUNT, 3, 3), (OLD, 13, 13), (("part", OLD, 4), 13, 3),
                                           (("kept", OLD, 0, 9), 13, 9), (OLDEST, 6, 6), (AGES, (1, 9), 2),
                                           (("part", AGES, 2), (1, 9), 1), (("kept", AGES, 5, 9), (1, 9), 5),
                                           (("greatest", NOBODY, AGE, -4, 9), -4, -4),
                                           (("different", NOBODY, AGE), (), 0),
                                           (("part", ("sum", SICK, ("less", ILL, AGE), -99, 99), 5), -16, -4)]:
            self.assertEqual(standing(SCHEMA, question, table), expected)
            self.assertEqual(told_by(SCHEMA, question, expected), answer)

    def test_wrong_inputs(self):
        for wrong in NO_SCHEMAS:
            self.raises_lightly(InvalidSchema, wrong, standing, wrong, (7,), (7,))
            self.raises_lightly(InvalidSchema, wrong, told_by, wrong, (7,), 0)
        for wrong in NO_QUESTIONS:
            self.raises_lightly(InvalidQuestion, wrong, standing, SCHEMA, wrong, (7,))
            self.raises_lightly(InvalidQuestion, wrong, told_by, SCHEMA, wrong, 0)
        for wrong in NO_TABLES:
            self.raises_lightly(InvalidTable, wrong, standing, SCHEMA, COUNT, wrong)


class StandingsTest(Raising, unittest.TestCase):
    def told_right(self, schema, question, n):
        expected = sorted(dict.fromkeys(standing_at(schema, question, table) for table in tables(schema, n)))
        found = standings(schema, question, n)
        self.assertEqual(found, expected)
        self.assertIs(type(found), list)
        self.assertEqual(standings(n=n, question=question, schema=schema), expected)

    def test_all_tables(self):
        for question in QUESTIONS:
            for n in range(4):
                self.told_right(SCHEMA, question, n)

    def test_drawn_questions(self):
        rng = random.Random(202)
        for schema, most in [(WIDE, 2), (PAIR, 4), (TRIO, 4), (QUAD, 4), (LONE, 4)]:
            for question in drawn_questions(rng, schema, 12):
                for n in range(most + 1):
                    self.told_right(schema, question, n)

    def test_nobody(self):
        for question, expected in [(COUNT, 0), (OLD, 0), (OLDEST, 2), (AGES, ()), (("kept", AGES, 3, 4), ()),
                                   (("part", OLDEST, 2), 2)]:
            self.assertEqual(standings(SCHEMA, question, 0), [expected])

    def test_many_persons(self):
        dozen = (("a", (-3, -2, -1, 0, 1, 2)), ("b", (0, 1)))
        self.told_right(dozen, ("different", ALL, ("sum", ("value", "a"), ("times", ("number", 9), ("value", "b")))), 3)
        self.assertEqual(standings(SCHEMA, ("count", ALL), 4), [4])
        self.assertEqual(standings(SCHEMA, COUNT, 40), list(range(41)))
        self.assertEqual(standings(TWELVE, ("different", ALL, ("value", "l")), 3), [(5,)])

    def test_each_list_is_new(self):
        for question in (COUNT, AGES):
            expected = list(standings(SCHEMA, question, 2))
            standings(SCHEMA, question, 2).clear()
            self.assertEqual(standings(SCHEMA, question, 2), expected)

    def test_wrong_inputs(self):
        for wrong in NO_SCHEMAS:
            self.raises_lightly(InvalidSchema, wrong, standings, wrong, (7,), -1)
        for wrong in NO_QUESTIONS:
            self.raises_lightly(InvalidQuestion, wrong, standings, SCHEMA, wrong, -1)
        for wrong in (-1, -10 ** 20):
            self.raises(InvalidNumber, wrong, standings, SCHEMA, COUNT, wrong)


class AlikeTest(Raising, unittest.TestCase):
    def told_right(self, schema, question):
        """Persons are alike if behind each table, from no persons to three, they lead to the same standing."""
        ahead = [table for n in range(3) for table in tables(schema, n)]
        found = []
        for person in everyone(schema):
            steps = [standing_at(schema, question, table + (person,)) for table in ahead]
            for group in found:
                if group[0] == steps:
                    group[1].append(person)
                    break
            else:
                found.append((steps, [person]))
        self.assertEqual(alike(schema, question), sorted(sorted(people) for _, people in found))

    def test_by_a_walk(self):
        rng = random.Random(203)
        for question in QUESTIONS:
            self.told_right(SCHEMA, question)
        for schema in (WIDE, PAIR, TRIO, QUAD, LONE):
            for question in drawn_questions(rng, schema, 12):
                self.told_right(schema, question)

    def test_known_ones(self):
        self.assertEqual(alike(SCHEMA, OLD), [[(1, 0), (5, 0), (9, 0)], [(1, 1)], [(5, 1)], [(9, 1)]])
        self.assertEqual(alike(question=COUNT, schema=SCHEMA), [[(1, 0), (5, 0), (9, 0)], [(1, 1), (5, 1), (9, 1)]])
        self.assertEqual(alike(SCHEMA, ("count", ALL)), [everyone(SCHEMA)])
        # Who is kept at the low end is as if he did not pass, as the standing is this low at first.
        self.assertEqual(alike(SCHEMA, OLDEST), [[(1, 0), (1, 1), (5, 0), (9, 0)], [(5, 1)], [(9, 1)]])
        # And so is who adds 0.
        self.assertEqual(alike(SCHEMA, ("sum", SICK, ("less", AGE, ("number", 5)), -4, 0)),
                         [[(1, 0), (5, 0), (5, 1), (9, 0), (9, 1)], [(1, 1)]])
        self.assertEqual(alike(SCHEMA, ("different", SICK, ("number", 0))),
                         [[(1, 0), (5, 0), (9, 0)], [(1, 1), (5, 1), (9, 1)]])
        self.assertEqual(alike(LONE, ("count", ALL)), [[(4, 0)]])

    def test_each_list_is_new(self):
        for told in (alike(SCHEMA, COUNT), alike(SCHEMA, COUNT)[0]):
            told.clear()
        self.assertEqual([len(people) for people in alike(SCHEMA, COUNT)], [3, 3])
        self.assertTrue(all(type(people) is list for people in alike(SCHEMA, COUNT)))

    def test_wrong_inputs(self):
        for wrong in NO_SCHEMAS:
            self.raises_lightly(InvalidSchema, wrong, alike, wrong, DEEP)
        for wrong in NO_QUESTIONS:
            self.raises_lightly(InvalidQuestion, wrong, alike, SCHEMA, wrong)


if __name__ == "__main__":
    unittest.main()
