"""What the tests reckon with: fractions of the standard library, apart from the program."""

from fractions import Fraction as F
from itertools import product


def pair(a):
    """A fraction or an integer as a number of the program."""
    a = F(a)
    return a.numerator, a.denominator


def pairs(row):
    return tuple(pair(a) for a in row)


def table(rows):
    return tuple(pairs(row) for row in rows)


def fractions(rows):
    """A table of the program's numbers as fractions."""
    return [[F(*a) for a in row] for row in rows]


def multiplied(one, other):
    return [[sum(a * b for a, b in zip(row, column)) for column in zip(*other)] for row in one]


def random_row(rng, many, zeros=True):
    while True:
        row = [rng.randint(0 if zeros else 1, 6) for _ in range(many)]
        if sum(row):
            return [F(a, sum(row)) for a in row]


def random_scheme(rng, rows, answers, zeros=False):
    return table([random_row(rng, answers, zeros) for _ in range(rows)])


def random_ratio(rng, one=False):
    bottom = rng.randint(2, 9)
    return pair(F(rng.randint(1, bottom if one else bottom - 1), bottom))


def random_asker(rng, n):
    belief = pairs(random_row(rng, n + 1))
    loss = table([sorted(F(rng.randint(0, 8), rng.randint(1, 4)) for _ in range(n + 1)) for _ in range(n + 1)])
    return belief, loss


def ladder_table(n, a):
    """The ladder, word for word from the document, in fractions."""
    if n == 0:
        return [[F(1)]]
    middle = (1 - a) / (1 + a)
    return [[(a ** abs(i - r)) * (middle if 0 < r < n else 1 / (1 + a)) for r in range(n + 1)] for i in range(n + 1)]


def all_readings(n):
    return product(range(n + 1), repeat=n + 1)


def cost_of(scheme, asker):
    """The cost of a scheme of fractions, answers told as they are."""
    belief, loss = asker
    return sum(
        F(*belief[i]) * x * F(*loss[i][abs(i - r)]) for i, row in enumerate(scheme) for r, x in enumerate(row)
    )


def read_as(scheme, reading):
    """A scheme of fractions with what a reading tells for its answers."""
    many = len(reading)
    return [[sum(x for x, j in zip(row, reading) if j == told) for told in range(many)] for row in scheme]
