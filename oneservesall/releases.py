"""Releases: questions whose kept answer is told by a scheme, and by what factor their outputs tell neighbours apart."""

from oneservesall.errors import InvalidRelease
from oneservesall.ladders import check_ratio, ladder
from oneservesall.numbers import ONE, check_index, check_some, is_whole
from oneservesall.questions import answer, check_question, is_question, kept_within, range_of
from oneservesall.schemes import is_scheme, read_by
from oneservesall.tables import check_schema, check_table
from oneservesall.walks import answers_met, first_table, steepest


def is_release(schema, told):
    """True for (question, low, high, scheme) with a row for each answer from low to high."""
    check_schema(schema)
    if not has_scheme(told) or not is_question(schema, told[0]):
        return False
    _, low, high, scheme = told
    # Rows are one or more, so that low is at most high where they are as many.
    return is_whole(low) and is_whole(high) and len(scheme) == high - low + 1


def outputs(schema, release, table):
    """The row of the chances of a release's outputs at a table."""
    check_schema(schema)
    check_release(schema, release)
    check_table(schema, table)
    return row_at(release, kept_answer(schema, release, table))


def chance(schema, release, table, output):
    """The chance of one of a release's outputs at a table."""
    row = outputs(schema, release, table)
    check_index(output, len(row))
    return row[output]


def release_factor(schema, release, n):
    """(factor, one, other, output): the least factor for tables of n persons, and where it is reached.

    The factor is None if there is none: the output has a chance at the one neighbour alone.
    """
    check_schema(schema)
    check_release(schema, release)
    check_some(n)
    met = answers_met(schema, (kept_question(release),), n)
    if not met:
        return ONE, first_table(schema, n), first_table(schema, n), 0
    return steepest(met, {answers: row_at(release, answers[0]) for ends in met for answers in ends})


def read_release(schema, release, mixed):
    """The release whose scheme is read by a mixed reading."""
    check_schema(schema)
    check_release(schema, release)
    question, low, high, scheme = release
    return question, low, high, read_by(scheme, mixed)


def ladder_release(schema, question, n, ratio):
    """The release of a question by the ladder, with the range of the answers about tables of n persons."""
    check_schema(schema)
    check_question(schema, question)
    check_some(n)
    check_ratio(ratio)
    low, high = range_of(schema, question, n)
    return question, low, high, ladder(high - low, ratio)


def has_scheme(told):
    """True for a tuple of four whose last is a scheme."""
    return isinstance(told, tuple) and len(told) == 4 and is_scheme(told[3])


def check_release(schema, told):
    """Raises InvalidRelease for what is no release of a schema that is one."""
    if not is_release(schema, told):
        raise InvalidRelease(told)


def kept_question(release):
    """What a release asks, as walks over tables take it: its ends may lie beyond those of a question."""
    question, low, high, _ = release
    return "kept", question, low, high


def kept_answer(schema, release, table):
    """The answer that a release has kept of a table."""
    question, low, high, _ = release
    return kept_within(answer(schema, question, table), low, high)


def row_at(release, kept):
    """The row of a release for a kept answer."""
    _, low, _, scheme = release
    return scheme[kept - low]
