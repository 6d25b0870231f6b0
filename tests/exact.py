"""What the tests reckon with: fractions of the standard library, apart from the program."""

from fractions import Fraction as F
from itertools import product


def pair(a):
    """A fraction or an integer as a number of the program."""
    a = F(a)
    return a.numerator, a.denominator


def pairs(row):
    return tuple(pair(a) for a in row)


def table(rows):
    return tuple(pairs(row) for row in rows)


def fractions(rows):
    """A table of the program's numbers as fractions."""
    return [[F(*a) for a in row] for row in rows]


def multiplied(one, other):
    return [[sum(a * b for a, b in zip(row, column)) for column in zip(*other)] for row in one]


def random_row(rng, many, zeros=True):
    while True:
        row = [rng.randint(0 if zeros else 1, 6) for _ in range(many)]
        if sum(row):
            return [F(a, sum(row)) for a in row]


def random_scheme(rng, rows, answers, zeros=False):
    return table([random_row(rng, answers, zeros) for _ in range(rows)])


def random_ratio(rng, one=False):
    bottom = rng.randint(2, 9)
    return pair(F(rng.randint(1, bottom if one else bottom - 1), bottom))


def random_asker(rng, n):
    belief = pairs(random_row(rng, n + 1))
    loss = table([sorted(F(rng.randint(0, 8), rng.randint(1, 4)) for _ in range(n + 1)) for _ in range(n + 1)])
    return belief, loss


def ladder_table(n, a):
    """The ladder, word for word from the document, in fractions."""
    if n == 0:
        return [[F(1)]]
    middle = (1 - a) / (1 + a)
    return [[(a ** abs(i - r)) * (middle if 0 < r < n else 1 / (1 + a)) for r in range(n + 1)] for i in range(n + 1)]


def all_readings(n):
    return product(range(n + 1), repeat=n + 1)


def cost_of(scheme, asker):
    """The cost of a scheme of fractions, answers told as they are."""
    belief, loss = asker
    return sum(
        F(*belief[i]) * x * F(*loss[i][abs(i - r)]) for i, row in enumerate(scheme) for r, x in enumerate(row)
    )


def read_as(scheme, reading):
    """A scheme of fractions with what a reading tells for its answers."""
    many = len(reading)
    return [[sum(x for x, j in zip(row, reading) if j == told) for told in range(many)] for row in scheme]


def losses_of(loss, i):
    """What each told count costs at the count i, in fractions."""
    return [F(*loss[i][abs(i - j)]) for j in range(len(loss))]


def least_ladder_cost(n, a, asker):
    """The least cost of all readings of the ladder, answer by answer, in fractions."""
    belief, loss = asker
    rows = ladder_table(n, a)
    costs = [losses_of(loss, i) for i in range(n + 1)]
    return sum(
        min(sum(F(*belief[i]) * rows[i][r] * costs[i][j] for i in range(n + 1)) for j in range(n + 1))
        for r in range(n + 1)
    )


def moved_row(rng, row, a):
    """A row of chances that lie as far from those of a row as the factor 1 / a lets, all but one of them."""
    moved = [a * x for x in row]
    left = 1 - sum(moved)
    for r in rng.sample(range(len(row)), len(row)):
        step = min(left, row[r] / a - moved[r])
        moved[r] += step
        left -= step
    return moved


def moved_scheme(rng, n, a):
    """A scheme of fractions with answers 0 to n and the factor 1 / a, its rows moved far from each other."""
    start = rng.randint(0, n)
    rows = {start: random_row(rng, n + 1)}
    for i in range(start + 1, n + 1):
        rows[i] = moved_row(rng, rows[i - 1], a)
    for i in range(start - 1, -1, -1):
        rows[i] = moved_row(rng, rows[i + 1], a)
    return [rows[i] for i in range(n + 1)]


def long_number(rng):
    """A fraction with a top and a bottom of eight figures."""
    return F(rng.randint(10 ** 7, 10 ** 8 - 1), rng.randint(10 ** 7, 10 ** 8 - 1))


def long_row(rng, many):
    """Chances with bottoms of eight figures and sum 1."""
    bottom = 99999989
    ends = sorted(rng.sample(range(1, bottom), many - 1))
    return [F(high - low, bottom) for low, high in zip([0, *ends], [*ends, bottom])]


def long_asker(rng, n):
    """A belief and a loss of numbers of eight figures."""
    loss = table([sorted(long_number(rng) for _ in range(n + 1)) for _ in range(n + 1)])
    return pairs(long_row(rng, n + 1)), loss


LONG_RATIOS = [(12345678, 98765431), (99999988, 99999989), (1, 99999989)]


def odd_losses(n):
    """Losses at the edges: all 0, flat, rows alike, growing at once, growing at the end, unlike rows."""
    many = n + 1
    return [table(rows) for rows in (
        [[0] * many] * many,
        [[F(5, 3)] * many] * many,
        [list(range(many))] * many,
        [[0] + [1] * n] * many,
        [[0] * n + [7]] * many,
        [[0] * i + [F(i + 1, 2)] * (many - i) for i in range(many)],
        [[d * d * (i % 2) for d in range(many)] for i in range(many)],
    )]


def odd_beliefs(n):
    """Beliefs at the edges: even, sure of an end, of the middle, of one of the two ends, without an end."""
    many = n + 1
    sure = [[F(int(i == k)) for i in range(many)] for k in (0, many // 2, n)]
    ends = [(x + y) / 2 for x, y in zip(sure[0], sure[2])]
    within = [F(0)] + [F(1, n)] * n if n else [F(1)]
    return [pairs(row) for row in ([F(1, many)] * many, *sure, ends, within)]
