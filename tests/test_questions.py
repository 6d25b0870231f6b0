import random
import unittest
from itertools import product

from raising import Raising
from test_tables import DEEP, NO_PERSONS, NO_SCHEMAS, NO_TABLES, everyone

from oneservesall.errors import (
    InvalidNumber, InvalidPerson, InvalidQuestion, InvalidSchema, InvalidTable, InvalidTerm, InvalidTest,
)
from oneservesall.questions import answer, is_question, is_term, is_test, passes, range_of, worth

SCHEMA = (("age", (1, 5, 9)), ("ill", (0, 1)))
WIDE = (("a", (-99, -3, 0, 7)), ("b", (-2, 99)))
AGE, ILL, ONE = ("value", "age"), ("value", "ill"), ("number", 1)
ALL = ("all",)
SICK = ("is", ILL, ONE)
COUNT = ("count", SICK)
OLD = ("sum", SICK, AGE, 0, 6)
TABLE = ((1, 1), (9, 1), (5, 0))

NO_TERMS = [
    7,
    "value",
    (),
    ("age",),
    ("value",),
    ("value", "age", "ill"),
    ("value", "name"),
    ("value", ""),
    ("value", 0),
    ("value", ("value", "age")),
    ("value", ("age",)),
    ("number",),
    ("number", 1, 2),
    ("number", "1"),
    ("number", (1,)),
    ("number", 100),
    ("number", -100),
    ("number", 10 ** 30),
    ("sum",),
    ("sum", AGE),
    ("sum", AGE, AGE, AGE),
    ("sum", AGE, 1),
    ("sum", "age", AGE),
    ("sum", AGE, ()),
    ("sum", AGE, SICK),
    ("sum", SICK, AGE, 0, 6),
    ("less", COUNT, AGE),
    ("times", AGE),
    ("least", AGE, ("number", 100)),
    ("most", ("value", "name"), AGE),
    ("Sum", AGE, AGE),
    ("by", AGE, AGE),
    ("", AGE, AGE),
    (1, AGE, AGE),
    (("sum",), AGE, AGE),
    (AGE, "sum", AGE),
    SICK,
    COUNT,
    ALL,
    DEEP,
    ("value", DEEP),
    (DEEP, 1),
    ("sum", AGE, DEEP),
]
NO_TESTS = [
    7,
    "all",
    (),
    ("all", ALL),
    ("all", 1),
    ("is",),
    ("is", AGE),
    ("is", AGE, AGE, AGE),
    ("is", AGE, 1),
    ("is", "age", "ill"),
    ("is", ALL, ALL),
    ("is", AGE, ("value", "name")),
    ("below", AGE),
    ("below", AGE, ("number", 100)),
    ("below", AGE, SICK),
    ("both", SICK),
    ("both", SICK, SICK, SICK),
    ("both", SICK, AGE),
    ("both", SICK, "all"),
    ("either", SICK),
    ("either", SICK, COUNT),
    ("either", SICK, ()),
    ("not",),
    ("not", SICK, SICK),
    ("not", AGE),
    ("not", "all"),
    ("not", 1),
    ("none",),
    ("All",),
    (("all",),),
    (0,),
    AGE,
    ONE,
    COUNT,
    DEEP,
    ("not", DEEP),
    ("is", DEEP, AGE),
]
NO_QUESTIONS = [
    7,
    "count",
    (),
    ("count",),
    ("count", SICK, SICK),
    ("count", AGE),
    ("count", COUNT),
    ("count", "all"),
    ("count", 1),
    ("sum",),
    ("sum", SICK, AGE),
    ("sum", SICK, AGE, 0),
    ("sum", SICK, AGE, 0, 6, 6),
    ("sum", SICK, AGE, 6, 0),
    ("sum", SICK, AGE, 1, 0),
    ("sum", AGE, SICK, 0, 6),
    ("sum", SICK, SICK, 0, 6),
    ("sum", AGE, AGE, 0, 6),
    ("sum", SICK, ("value", "name"), 0, 6),
    ("sum", SICK, AGE, -1000, 6),
    ("sum", SICK, AGE, 0, 1000),
    ("sum", SICK, AGE, "0", 6),
    ("sum", SICK, AGE, 0, "6"),
    ("sum", SICK, AGE, 0, (6,)),
    ("sum", SICK, AGE, (), 6),
    ("sum", SICK, AGE, ("number", 0), ("number", 6)),
    ("greatest", SICK, AGE),
    ("greatest", SICK, AGE, 6, 5),
    ("greatest", SICK, AGE, 1000, 1000),
    ("greatest", SICK, AGE, -1000, -1000),
    ("greatest", SICK, AGE, 0, 6, 7),
    ("different", SICK),
    ("different", SICK, AGE, AGE),
    ("different", SICK, AGE, 0, 6),
    ("different", AGE, SICK),
    ("different", SICK, 1),
    ("kept",),
    ("kept", COUNT),
    ("kept", COUNT, 0),
    ("kept", COUNT, 0, 1, 2),
    ("kept", COUNT, 1, 0),
    ("kept", COUNT, -1000, 0),
    ("kept", COUNT, 0, 1000),
    ("kept", SICK, 0, 1),
    ("kept", AGE, 0, 1),
    ("kept", 1, 0, 1),
    ("kept", COUNT, "0", "1"),
    ("part",),
    ("part", COUNT),
    ("part", COUNT, 2, 2),
    ("part", COUNT, 0),
    ("part", COUNT, 1),
    ("part", COUNT, -2),
    ("part", COUNT, 100),
    ("part", COUNT, "2"),
    ("part", COUNT, (2,)),
    ("part", SICK, 2),
    ("part", 4, 2),
    ("mean", SICK, AGE),
    ("Count", SICK),
    (("count",), SICK),
    (3, SICK),
    (COUNT,),
    AGE,
    SICK,
    ALL,
    ("sum", AGE, AGE),
    DEEP,
    ("count", DEEP),
    ("part", DEEP, 2),
    ("sum", SICK, AGE, DEEP, DEEP),
]


def tuples_in(told):
    return 1 + sum(tuples_in(part) for part in told if isinstance(part, tuple))


def depth(told):
    return 1 + max([depth(part) for part in told if isinstance(part, tuple)], default=0)


def summed(many):
    """A term with so many tuples in it, an odd number, and as flat as can be."""
    if many == 1:
        return ONE
    half = (many - 1) // 2
    half -= (half + 1) % 2
    return ("sum", summed(many - 1 - half), summed(half))


def nested(deep):
    """A term that is so deep."""
    found = AGE
    for _ in range(deep - 1):
        found = ("sum", found, ONE)
    return found


def denied(test, many):
    for _ in range(many):
        test = ("not", test)
    return test


def reckoned(schema, told, person):
    """What a term or a test comes to for a person, by a reckoning of its own."""
    head, parts = told[0], told[1:]
    if head == "value":
        return dict(zip([name for name, _ in schema], person))[parts[0]]
    if head == "number":
        return parts[0]
    told = [reckoned(schema, part, person) for part in parts]
    return {
        "sum": lambda a, b: a + b, "less": lambda a, b: a - b, "times": lambda a, b: a * b,
        "least": lambda a, b: sorted((a, b))[0], "most": lambda a, b: sorted((a, b))[1],
        "all": lambda: True, "is": lambda a, b: a == b, "below": lambda a, b: a < b,
        "both": lambda t, u: t and u, "either": lambda t, u: t or u, "not": lambda t: not t,
    }[head](*told)


def within(a, low, high):
    return sorted((low, a, high))[1]


def asked(schema, question, table):
    """What a question comes to about a table, by a reckoning of its own."""
    head = question[0]
    if head == "kept":
        return within(asked(schema, question[1], table), *question[2:])
    if head == "part":
        a, k = asked(schema, question[1], table), question[2]
        return (a - a % k) // k
    rows = [person for person in table if reckoned(schema, question[1], person)]
    if head == "count":
        return sum(1 for _ in rows)
    worths = [reckoned(schema, question[2], person) for person in rows]
    if head == "different":
        return len(dict.fromkeys(worths))
    kept = [within(a, *question[3:]) for a in worths]
    return sum(kept) if head == "sum" else max(kept, default=question[3])


def drawn_term(rng, schema, deep):
    if deep == 1 or rng.random() < 0.3:
        return rng.choice((("value", rng.choice(schema)[0]), ("number", rng.choice((-99, 99, rng.randint(-9, 9))))))
    head = rng.choice(("sum", "less", "times", "least", "most"))
    return head, drawn_term(rng, schema, deep - 1), drawn_term(rng, schema, deep - 1)


def drawn_test(rng, schema, deep):
    if deep == 1:
        return ALL
    head = rng.choice(("is", "below", "below", "both", "either", "not"))
    if head in ("is", "below"):
        return head, drawn_term(rng, schema, deep - 1), drawn_term(rng, schema, deep - 1)
    return (head,) + tuple(drawn_test(rng, schema, deep - 1) for _ in range(1 if head == "not" else 2))


def drawn_question(rng, schema, deep):
    if deep > 2 and rng.random() < 0.4:
        inner = drawn_question(rng, schema, deep - 1)
        low = rng.randint(-9, 3)
        return rng.choice((("kept", inner, low, low + rng.randint(0, 9)), ("part", inner, rng.randint(2, 5))))
    test, term = drawn_test(rng, schema, deep - 1), drawn_term(rng, schema, deep - 1)
    low = rng.randint(-20, 3)
    high = low + rng.randint(0, 30)
    return rng.choice((("count", test), ("sum", test, term, low, high), ("greatest", test, term, low, high),
                       ("different", test, term)))


def fitting(rng, draw, schema):
    """Something drawn that is at most 8 deep and has at most 24 tuples."""
    while True:
        told = draw(rng, schema, rng.randint(2, 4))
        if tuples_in(told) <= 24 and depth(told) <= 8:
            return told


class FormsTest(Raising, unittest.TestCase):
    def test_terms(self):
        for told in [AGE, ILL, ("number", -99), ("number", 99), ("number", 0)] + [
                (head, AGE, ("less", ONE, ILL)) for head in ("sum", "less", "times", "least", "most")]:
            self.assertIs(is_term(SCHEMA, told), True, told)
            self.assertIs(is_term(told=told, schema=SCHEMA), True)
            self.assertIs(is_test(SCHEMA, told), False)
            self.assertIs(is_question(SCHEMA, told), False)
        for told in NO_TERMS:
            self.assertIs(is_term(SCHEMA, told), False)
        for told in NO_TERMS:
            self.assertIs(is_term(SCHEMA, ("sum", AGE, told)), False)
            self.assertIs(is_term(SCHEMA, ("most", told, AGE)), False)

    def test_tests(self):
        for told in [ALL, SICK, ("is", AGE, AGE), ("below", AGE, ILL), ("both", ALL, SICK), ("either", SICK, ALL),
                     ("not", ("not", ALL))]:
            self.assertIs(is_test(SCHEMA, told), True, told)
            self.assertIs(is_test(told=told, schema=SCHEMA), True)
            self.assertIs(is_term(SCHEMA, told), False)
            self.assertIs(is_question(SCHEMA, told), False)
        for told in NO_TESTS:
            self.assertIs(is_test(SCHEMA, told), False)
            self.assertIs(is_test(SCHEMA, ("not", told)), False)
            self.assertIs(is_test(SCHEMA, ("both", ALL, told)), False)
            self.assertIs(is_test(SCHEMA, ("either", told, ALL)), False)
        for told in NO_TERMS:
            self.assertIs(is_test(SCHEMA, ("is", told, AGE)), False)
            self.assertIs(is_test(SCHEMA, ("below", AGE, told)), False)

    def test_questions(self):
        for told in [COUNT, OLD, ("sum", ALL, AGE, -999, 999), ("sum", ALL, AGE, 5, 5), ("sum", ALL, AGE, -999, -999),
                     ("greatest", ALL, AGE, 999, 999), ("greatest", SICK, ONE, -1, 0), ("different", ALL, AGE),
                     ("kept", COUNT, 0, 0), ("kept", OLD, -999, 999), ("part", COUNT, 2), ("part", OLD, 99),
                     ("kept", ("part", ("kept", OLD, 0, 3), 2), 1, 2)]:
            self.assertIs(is_question(SCHEMA, told), True, told)
            self.assertIs(is_question(told=told, schema=SCHEMA), True)
            self.assertIs(is_term(SCHEMA, told), False)
            self.assertIs(is_test(SCHEMA, told), False)
        for told in NO_QUESTIONS:
            self.assertIs(is_question(SCHEMA, told), False)
            self.assertIs(is_question(SCHEMA, ("kept", told, 0, 1)), False)
            self.assertIs(is_question(SCHEMA, ("part", told, 2)), False)
        for told in NO_TESTS:
            self.assertIs(is_question(SCHEMA, ("count", told)), False)
            self.assertIs(is_question(SCHEMA, ("different", told, AGE)), False)
        for told in NO_TERMS:
            self.assertIs(is_question(SCHEMA, ("different", ALL, told)), False)
            self.assertIs(is_question(SCHEMA, ("greatest", ALL, told, 0, 1)), False)

    def test_columns_of_another_schema(self):
        self.assertIs(is_term(WIDE, AGE), False)
        self.assertIs(is_term(WIDE, ("value", "b")), True)
        self.assertIs(is_test(WIDE, SICK), False)
        self.assertIs(is_question(WIDE, COUNT), False)

    def test_at_most_twenty_four_tuples(self):
        for many in (1, 3, 21, 23, 25, 27):
            self.assertEqual(tuples_in(summed(many)), many)
            self.assertLess(depth(summed(many)), 8)
            self.assertIs(is_term(SCHEMA, summed(many)), many <= 24)
        for many in (11, 13):
            # Besides the test itself, 11 and 11 are 23, 11 and 13 are 25.
            self.assertIs(is_test(SCHEMA, ("is", summed(11), summed(many))), many == 11)
        for told, right in [(("not", ("is", summed(11), summed(11))), True),
                            (("not", ("not", ("is", summed(11), summed(11)))), False)]:
            self.assertEqual(tuples_in(told) <= 24, right)
            self.assertIs(is_test(SCHEMA, told), right)
        for told, right in [(("different", ALL, summed(21)), True), (("different", ALL, summed(23)), False),
                            (("kept", ("different", ALL, summed(21)), 0, 1), True),
                            (("part", ("kept", ("different", ALL, summed(21)), 0, 1), 2), False),
                            (("count", ("is", summed(11), summed(11))), True),
                            (("sum", ("not", ALL), summed(21), 0, 1), True),
                            (("sum", ("not", ("not", ALL)), summed(21), 0, 1), False)]:
            self.assertEqual(tuples_in(told) <= 24, right)
            self.assertLessEqual(depth(told), 8)
            self.assertIs(is_question(SCHEMA, told), right)

    def test_at_most_eight_deep(self):
        for deep in (1, 7, 8, 9, 12):
            self.assertEqual(depth(nested(deep)), deep)
            self.assertIs(is_term(SCHEMA, nested(deep)), deep <= 8)
            self.assertIs(is_test(SCHEMA, denied(ALL, deep - 1)), deep <= 8)
            self.assertIs(is_test(SCHEMA, ("is", ONE, nested(deep))), deep <= 7)
            self.assertIs(is_question(SCHEMA, ("different", ALL, nested(deep))), deep <= 7)
            self.assertIs(is_question(SCHEMA, ("count", denied(ALL, deep - 1))), deep <= 7)
            question = COUNT
            for _ in range(deep - 3):
                question = ("part", question, 2)
            if deep > 2:
                self.assertEqual(depth(question), deep)
                self.assertIs(is_question(SCHEMA, question), deep <= 8)

    def test_very_wide_ones(self):
        self.assertIs(is_term(SCHEMA, ("sum",) + (AGE,) * 100000), False)
        self.assertIs(is_question(SCHEMA, ("count",) + (1,) * 100000), False)
        many = ALL
        for _ in range(40):
            many = ("both", many, many)
        self.assertIs(is_test(SCHEMA, many), False)

    def test_drawn_ones(self):
        rng = random.Random(181)
        found = {True: 0, False: 0}
        for draw, function in [(drawn_term, is_term), (drawn_test, is_test), (drawn_question, is_question)]:
            for _ in range(150):
                told = draw(rng, WIDE, rng.randint(2, 9))
                expected = tuples_in(told) <= 24 and depth(told) <= 8
                found[expected] += 1
                self.assertIs(function(WIDE, told), expected)
        self.assertTrue(min(found.values()) > 50)

    def test_schemas(self):
        for wrong in NO_SCHEMAS:
            for function in (is_term, is_test, is_question):
                self.raises_lightly(InvalidSchema, wrong, function, wrong, ())
            for function in (worth, passes, answer):
                self.raises_lightly(InvalidSchema, wrong, function, wrong, (), (7,))
            self.raises_lightly(InvalidSchema, wrong, range_of, wrong, (), -1)


class WorthTest(Raising, unittest.TestCase):
    def test_each_kind(self):
        two = ("number", 2)
        for told, expected in [(AGE, 5), (ILL, 0), (("number", -99), -99), (("sum", AGE, two), 7),
                               (("less", AGE, two), 3), (("less", two, AGE), -3), (("times", AGE, two), 10),
                               (("least", AGE, two), 2), (("least", two, AGE), 2), (("most", AGE, two), 5),
                               (("most", two, AGE), 5), (("times", ("less", ILL, AGE), AGE), -25)]:
            self.assertEqual(worth(SCHEMA, told, (5, 0)), expected)
            self.assertEqual(worth(person=(5, 0), term=told, schema=SCHEMA), expected)

    def test_drawn_terms(self):
        rng = random.Random(182)
        for _ in range(120):
            told = fitting(rng, drawn_term, WIDE)
            for person in everyone(WIDE):
                self.assertEqual(worth(WIDE, told, person), reckoned(WIDE, told, person))

    def test_great_numbers(self):
        told = ("number", 99)
        for _ in range(3):
            told = ("times", told, told)
        self.assertEqual(worth(SCHEMA, told, (1, 0)), 99 ** 8)
        self.assertEqual(worth(SCHEMA, ("less", ("number", -99), told), (1, 0)), -99 - 99 ** 8)

    def test_wrong_inputs(self):
        for wrong in NO_TERMS:
            self.raises_lightly(InvalidTerm, wrong, worth, SCHEMA, wrong, (7,))
        self.raises(InvalidTerm, nested(9), worth, SCHEMA, nested(9), (7,))
        for wrong in NO_PERSONS:
            self.raises_lightly(InvalidPerson, wrong, worth, SCHEMA, AGE, wrong)


class PassesTest(Raising, unittest.TestCase):
    def test_each_kind(self):
        five = ("number", 5)
        for told, expected in [(ALL, True), (SICK, False), (("is", AGE, five), True), (("below", AGE, five), False),
                               (("below", ONE, AGE), True), (("below", AGE, ONE), False), (("not", SICK), True),
                               (("not", ALL), False), (("both", ALL, SICK), False), (("both", SICK, ALL), False),
                               (("both", ALL, ALL), True), (("either", ALL, SICK), True),
                               (("either", SICK, ALL), True), (("either", SICK, SICK), False)]:
            self.assertIs(passes(SCHEMA, told, (5, 0)), expected)
            self.assertIs(passes(person=(5, 0), test=told, schema=SCHEMA), expected)

    def test_drawn_tests(self):
        rng = random.Random(183)
        found = set()
        for _ in range(120):
            told = fitting(rng, drawn_test, WIDE)
            for person in everyone(WIDE):
                expected = reckoned(WIDE, told, person)
                found.add(expected)
                self.assertIs(passes(WIDE, told, person), expected)
        self.assertEqual(found, {True, False})

    def test_wrong_inputs(self):
        for wrong in NO_TESTS:
            self.raises_lightly(InvalidTest, wrong, passes, SCHEMA, wrong, (7,))
        self.raises(InvalidTest, denied(ALL, 8), passes, SCHEMA, denied(ALL, 8), (7,))
        for wrong in NO_PERSONS:
            self.raises_lightly(InvalidPerson, wrong, passes, SCHEMA, SICK, wrong)


class AnswerTest(Raising, unittest.TestCase):
    def test_each_kind(self):
        for told, expected in [(COUNT, 2), (("count", ALL), 3), (OLD, 7), (("sum", ALL, AGE, 2, 5), 12),
                               (("sum", ("not", ALL), AGE, 2, 5), 0), (("greatest", ALL, AGE, 0, 99), 9),
                               (("greatest", SICK, AGE, 0, 6), 6), (("greatest", ALL, AGE, 20, 30), 20),
                               (("greatest", ("not", ALL), AGE, -7, 6), -7), (("different", ALL, AGE), 3),
                               (("different", ALL, ILL), 2), (("different", SICK, ILL), 1),
                               (("different", ("not", ALL), AGE), 0), (("kept", COUNT, 0, 1), 1),
                               (("kept", COUNT, 3, 9), 3), (("kept", COUNT, 0, 9), 2), (("part", OLD, 2), 3),
                               (("part", OLD, 8), 0), (("part", OLD, 7), 1)]:
            self.assertEqual(answer(SCHEMA, told, TABLE), expected, told)
            self.assertEqual(answer(table=TABLE, question=told, schema=SCHEMA), expected)

    def test_answers_below_zero(self):
        lost = ("sum", ALL, ("less", ILL, AGE), -999, 999)
        self.assertEqual(answer(SCHEMA, lost, TABLE), -13)
        for k, expected in [(2, -7), (13, -1), (14, -1), (12, -2), (99, -1)]:
            self.assertEqual(answer(SCHEMA, ("part", lost, k), TABLE), expected)
        for low, high, expected in [(-99, -14, -14), (-13, 0, -13), (-12, 0, -12), (-99, 99, -13)]:
            self.assertEqual(answer(SCHEMA, ("kept", lost, low, high), TABLE), expected)
        self.assertEqual(answer(SCHEMA, ("greatest", ALL, ("less", ILL, AGE), -999, -3), TABLE), -3)
        self.assertEqual(answer(SCHEMA, ("greatest", ALL, ("less", ILL, AGE), -999, 9), TABLE), 0)

    def test_tables_of_no_persons_and_of_alike_ones(self):
        for told, nobody, dozen in [(COUNT, 0, 12), (OLD, 0, 72), (("greatest", SICK, AGE, -5, 5), -5, 5),
                                    (("different", SICK, AGE), 0, 1), (("part", OLD, 5), 0, 14),
                                    (("kept", OLD, 3, 70), 3, 70)]:
            self.assertEqual(answer(SCHEMA, told, ()), nobody)
            self.assertEqual(answer(SCHEMA, told, ((9, 1),) * 12), dozen)

    def test_each_ones_number_is_kept_not_the_sum(self):
        self.assertEqual(answer(SCHEMA, ("sum", ALL, AGE, 0, 6), TABLE), 12)
        self.assertEqual(answer(SCHEMA, ("kept", ("sum", ALL, AGE, 0, 99), 0, 6), TABLE), 6)
        self.assertEqual(answer(SCHEMA, ("sum", ALL, AGE, 6, 6), TABLE), 18)

    def test_drawn_questions(self):
        rng = random.Random(184)
        for _ in range(200):
            told = fitting(rng, drawn_question, WIDE)
            for _ in range(5):
                table = tuple(rng.choice(everyone(WIDE)) for _ in range(rng.randint(0, 12)))
                expected = asked(WIDE, told, table)
                self.assertEqual(answer(WIDE, told, table), expected)
                self.assertEqual(answer(WIDE, told, tuple(rng.sample(table, len(table)))), expected)

    def test_wrong_inputs(self):
        for wrong in NO_QUESTIONS:
            self.raises_lightly(InvalidQuestion, wrong, answer, SCHEMA, wrong, (7,))
            self.raises_lightly(InvalidQuestion, wrong, range_of, SCHEMA, wrong, -1)
        for wrong in NO_TABLES:
            self.raises_lightly(InvalidTable, wrong, answer, SCHEMA, COUNT, wrong)


class RangeOfTest(Raising, unittest.TestCase):
    def test_all_tables(self):
        rng = random.Random(185)
        for n in range(4):
            for _ in range(15):
                told = fitting(rng, drawn_question, WIDE)
                answers = [asked(WIDE, told, table) for table in product(everyone(WIDE), repeat=n)]
                self.assertEqual(range_of(WIDE, told, n), (min(answers), max(answers)))
                self.assertEqual(range_of(n=n, question=told, schema=WIDE), (min(answers), max(answers)))

    def test_known_ones(self):
        for n in range(5):
            self.assertEqual(range_of(SCHEMA, COUNT, n), (0, n))
            self.assertEqual(range_of(SCHEMA, OLD, n), (0, 6 * n))
            self.assertEqual(range_of(SCHEMA, ("count", ALL), n), (n, n))
            self.assertEqual(range_of(SCHEMA, ("different", ALL, AGE), n), (min(n, 1), min(n, 3)))
            self.assertEqual(range_of(SCHEMA, ("greatest", SICK, AGE, -4, 8), n), (-4, 8 if n else -4))
            self.assertEqual(range_of(SCHEMA, ("sum", ALL, AGE, 2, 5), n), (2 * n, 5 * n))

    def test_nobody(self):
        self.assertEqual(range_of(SCHEMA, ("kept", COUNT, 3, 4), 0), (3, 3))
        self.assertEqual(range_of(SCHEMA, ("greatest", ALL, AGE, -7, 7), 0), (-7, -7))
        self.assertEqual(range_of(SCHEMA, ("part", ("greatest", ALL, AGE, -7, 7), 2), 0), (-4, -4))

    def test_twelve_persons_that_can_be(self):
        dozen = (("a", (-3, -2, -1, 0, 1, 2)), ("b", (0, 1)))
        told = ("sum", ("not", ("is", ("value", "b"), ONE)), ("times", ("value", "a"), ("value", "a")), -4, 8)
        self.assertEqual(range_of(dozen, told, 3), (0, 24))
        self.assertEqual(range_of(dozen, ("sum", ALL, ("value", "a"), -2, 99), 3), (-6, 6))

    def test_wrong_inputs(self):
        for wrong in (-1, -10 ** 20):
            self.raises(InvalidNumber, wrong, range_of, SCHEMA, COUNT, wrong)


if __name__ == "__main__":
    unittest.main()
