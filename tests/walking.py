"""What the tests of tables walk: all tables and neighbours, and answers and standings reckoned at once."""

from itertools import product

from exact import F, pair, random_scheme
from test_questions import asked, drawn_question, fitting, reckoned, within
from test_tables import everyone

SCHEMA = (("age", (1, 5, 9)), ("ill", (0, 1)))
PAIR = (("a", (-7, 3)),)
LONE = (("a", (4,)), ("b", (0,)))
TRIO = (("a", (-2, 0, 9)), ("b", (1,)))
QUAD = (("a", (-5, 4)), ("b", (0, 3)))
AGE, ILL, ONE = ("value", "age"), ("value", "ill"), ("number", 1)
ALL = ("all",)
NOBODY = ("not", ALL)
SICK = ("is", ILL, ONE)
COUNT = ("count", SICK)
OLD = ("sum", SICK, AGE, 0, 6)
# Questions of each kind over SCHEMA, with answers below 0, with none who passes, and around each other.
QUESTIONS = [
    COUNT,
    ("count", ALL),
    ("count", NOBODY),
    OLD,
    ("sum", ALL, ("less", ILL, AGE), -999, 999),
    ("sum", ("below", AGE, ("number", 6)), ("times", AGE, AGE), 3, 20),
    ("sum", NOBODY, AGE, -5, 5),
    ("greatest", SICK, AGE, 0, 99),
    ("greatest", ALL, ("less", ONE, AGE), -6, -2),
    ("greatest", NOBODY, AGE, -4, 5),
    ("greatest", SICK, AGE, 5, 8),
    ("different", ALL, AGE),
    ("different", SICK, ("less", ("number", 5), AGE)),
    ("different", NOBODY, AGE),
    ("kept", OLD, 2, 9),
    ("kept", ("different", ALL, ("sum", AGE, ILL)), -3, 2),
    ("part", OLD, 4),
    ("part", ("sum", ALL, ("less", ILL, AGE), -999, 999), 3),
    ("part", ("kept", ("part", ("greatest", ALL, AGE, -9, 9), 2), 1, 3), 2),
    ("kept", ("part", ("different", SICK, AGE), 2), 0, 1),
]


def tables(schema, n):
    return list(product(everyone(schema), repeat=n))


def moved(schema, n):
    """All (one, other) of neighbours of n persons, either way about."""
    return [
        (one, one[:at] + (person,) + one[at + 1:])
        for one in tables(schema, n) for at in range(n) for person in everyone(schema) if person != one[at]
    ]


def are_moved(one, other):
    return len(one) == len(other) and sum(a != b for a, b in zip(one, other)) == 1


def answers_at(schema, question, n):
    """The answers of all tables of n persons, by table."""
    return {table: asked(schema, question, table) for table in tables(schema, n)}


def standing_at(schema, question, table):
    """What the document says of a standing behind a table, reckoned at once."""
    while question[0] in ("kept", "part"):
        question = question[1]
    rows = [person for person in table if reckoned(schema, question[1], person)]
    if question[0] == "count":
        return len(rows)
    worths = [reckoned(schema, question[2], person) for person in rows]
    if question[0] == "different":
        return tuple(sorted(dict.fromkeys(worths)))
    low, high = question[3:]
    inside = [within(a, low, high) for a in worths]
    return sum(inside) if question[0] == "sum" else max(inside, default=low)


def drawn_questions(rng, schema, many):
    return [fitting(rng, drawn_question, schema) for _ in range(many)]


def kept_row(schema, release, table):
    """The row of a release's scheme for the answer that it keeps of a table."""
    question, low, high, scheme = release
    return scheme[within(asked(schema, question, table), low, high) - low]


def random_release(rng, schema, question, answers, zeros=False):
    """A release of a question, which keeps answers in from none, one or both sides."""
    low, high = min_max(schema, question)
    low = max(low, -20) + rng.randint(-2, 2)
    high = low + rng.randint(0, min(6, max(high, low) - low + 1))
    return question, low, high, random_scheme(rng, high - low + 1, answers, zeros)


def min_max(schema, question):
    at = answers_at(schema, question, 2)
    return min(at.values()), max(at.values())


def least_factor(schema, rows, n):
    """The least factor of rows of chances, by table: 1 of none, None if there is none."""
    found = F(1)
    for row, beside in {(rows[one], rows[other]) for one, other in moved(schema, n)}:
        for x, y in zip(row, beside):
            if x[0] and not y[0]:
                return None
            if x[0]:
                found = max(found, F(*x) / F(*y))
    return found


class Reaching:
    """Mixed into a test case: least factors against a walk over all tables, neighbours and outputs."""

    def reaches_the_least(self, schema, chances, told, n):
        """told is (factor, one, other, output), chances a dictionary of the chances of outputs, by table."""
        factor, one, other, output = told
        rows = {table: tuple(row.values()) for table, row in chances.items()}
        expected = least_factor(schema, rows, n)
        self.assertTrue(are_moved(one, other) and one in chances and other in chances)
        x, y = F(*chances[one][output]), F(*chances[other][output])
        self.assertGreater(x, 0)
        if expected is None:
            self.assertIsNone(factor)
            self.assertEqual(y, 0)
        else:
            self.assertEqual(factor, pair(expected))
            self.assertEqual(x, expected * y)
