"""Stretches: how far one person can move the answers of questions."""

from oneservesall.errors import InvalidPaper
from oneservesall.numbers import check_some, is_whole
from oneservesall.questions import answer, check_question
from oneservesall.tables import are_neighbours, check_schema, is_table
from oneservesall.walks import answers_met, first_table


def stretch(schema, question, n):
    """(distance, one, other): the greatest distance of the answers of two neighbours, and two that have it."""
    _check(schema, (question,), n)
    met = answers_met(schema, (question,), n)
    if not met:
        table = first_table(schema, n)
        return 0, table, table
    furthest = max(met, key=_distance)
    one, other = met[furthest]
    return _distance(furthest), one, other


def pairs(schema, question, n):
    """The ascending list of the (a, b), a at most b, that the answers of two neighbours are."""
    _check(schema, (question,), n)
    return sorted([(one[0], other[0]) for one, other in answers_met(schema, (question,), n)])


def row_stretch(schema, questions, n):
    """The greatest sum of the distances of all answers of a tuple of questions at two neighbours."""
    _check(schema, questions, n)
    return max([_distance(ends) for ends in answers_met(schema, questions, n)], default=0)


def is_stretch(schema, question, n, told):
    """True if (distance, one, other) is right: two neighbours with the greatest distance."""
    _check(schema, (question,), n)
    if not _is_paper(schema, n, told):
        raise InvalidPaper(told)
    distance, one, other = told
    met = answers_met(schema, (question,), n)
    if not met:
        # Where no table has a neighbour, there is but one table.
        return distance == 0
    if not are_neighbours(schema, one, other):
        return False
    moved = abs(answer(schema, question, one) - answer(schema, question, other))
    return distance == moved == max([_distance(ends) for ends in met])


def _check(schema, questions, n):
    check_schema(schema)
    for question in questions:
        check_question(schema, question)
    check_some(n)


def _is_paper(schema, n, told):
    """True for (integer, table, table) of n persons each."""
    if not isinstance(told, tuple) or len(told) != 3 or not is_whole(told[0]):
        return False
    return all(is_table(schema, table) and len(table) == n for table in told[1:])


def _distance(ends):
    one, other = ends
    return sum([abs(a - b) for a, b in zip(one, other)])
