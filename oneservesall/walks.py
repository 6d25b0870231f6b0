"""Walks over the neighbouring tables of a schema, by the answers that they have."""

from oneservesall.folds import answer_told, joined, share_of, standing_ahead
from oneservesall.numbers import ZERO, number
from oneservesall.tables import persons


def first_table(schema, n):
    """The first table of n persons."""
    return (persons(schema)[0],) * n


def answers_met(schema, questions, n):
    """A dict of what neighbours of n persons answer, and of two such neighbours that do.

    Its keys are (answers, other answers) of a tuple of questions, the lesser ones first,
    each once. No answer hangs on the sequence of persons, so the one who is another stands last.
    """
    movers = _movers(schema, questions)
    found = {}
    for standings, table in _reached(questions, movers, n - 1).items():
        ends = sorted([(_answers(questions, standings, shares), person) for shares, person in movers])
        for k, (answers, person) in enumerate(ends):
            for others, other in ends[k + 1:]:
                found.setdefault((answers, others), ((*table, person), (*table, other)))
    return found


def steepest(met, rows):
    """(factor, one, other, place): the least factor of rows of chances, and neighbours and a place that reach it.

    met is what neighbours answer, with one key at least, and rows has the chances of each of its answers.
    The factor is None if the chance at the place is above 0 at the one and 0 at the other.
    """
    top, bottom = 0, 1
    reached = None
    for a, b, one, other in _both_ways(met):
        for place, (x, y) in enumerate(zip(rows[a], rows[b])):
            if x != ZERO and y == ZERO:
                return None, one, other, place
            # x by y is compared with the greatest so far without a division, as there are many of them.
            if x[0] * y[1] * bottom > top * x[1] * y[0]:
                top, bottom = x[0] * y[1], x[1] * y[0]
                reached = (one, other, place)
    return number(top, bottom), *reached


def _movers(schema, questions):
    """The list of (shares, person): what persons add to the standings of questions.

    Of those who add the same there are two, who are neighbours' unlike persons with like answers.
    """
    found = {}
    for person in persons(schema):
        shares = tuple([share_of(schema, question, person) for question in questions])
        found.setdefault(shares, []).append(person)
    return [(shares, person) for shares, people in found.items() for person in people[:2]]


def _reached(questions, movers, n):
    """A dict of the standings to which tables of n persons lead, and of one such table each."""
    found = {tuple([standing_ahead(question) for question in questions]): ()}
    for _ in range(n):
        found = _reached_next(questions, movers, found)
    return found


def _reached_next(questions, movers, reached):
    found = {}
    for standings, table in reached.items():
        for shares, person in movers:
            found.setdefault(_joined(questions, standings, shares), (*table, person))
    return found


def _joined(questions, standings, shares):
    return tuple([joined(question, a, b) for question, a, b in zip(questions, standings, shares)])


def _answers(questions, standings, shares):
    """What questions answer about a table that one more person ends, by the standings ahead of this one."""
    behind = _joined(questions, standings, shares)
    return tuple([answer_told(question, a) for question, a in zip(questions, behind)])


def _both_ways(met):
    """The list of (answers, other answers, one, other) of all that was met, either way about."""
    there = [(a, b, one, other) for (a, b), (one, other) in met.items()]
    return there + [(b, a, other, one) for a, b, one, other in there]
