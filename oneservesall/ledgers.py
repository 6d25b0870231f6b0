"""Ledgers: each release asked of a table pays its factor, and all that is paid stays within a limit."""

from oneservesall.errors import (
    DividedByZero, InvalidLimit, InvalidLot, InvalidOutputs, InvalidPair, InvalidTable, Overdrawn,
)
from oneservesall.numbers import ONE, ZERO, below, by, is_number, is_whole, plus, times
from oneservesall.releases import check_release, outputs, release_factor
from oneservesall.tables import are_neighbours, check_schema, check_table


class Ledger:
    """A table of a schema, asked by releases until the product of their factors would be above a limit."""

    def __init__(self, schema, table, limit):
        check_schema(schema)
        check_table(schema, table)
        if table == ():
            raise InvalidTable(table)
        if not is_number(limit) or below(limit, ONE):
            raise InvalidLimit(limit)
        self._schema = schema
        self._table = table
        self._limit = limit
        self._paid = ONE
        self._left = limit
        self._asked = []

    @property
    def schema(self):
        """The schema of the table."""
        return self._schema

    @property
    def paid(self):
        """The product of what was paid."""
        return self._paid

    @property
    def left(self):
        """The limit by what was paid."""
        return self._left

    def ask(self, release, lot):
        """Pays the factor of a release, and returns the output that a lot from 0 on below 1 comes to."""
        check_release(self._schema, release)
        if not is_number(lot) or lot[0] < 0 or not below(lot, ONE):
            raise InvalidLot(lot)
        factor = release_factor(self._schema, release, len(self._table))[0]
        if factor is None or below(self._left, factor):
            raise Overdrawn(factor)
        output = _drawn(outputs(self._schema, release, self._table), lot)
        self._paid = times(self._paid, factor)
        self._left = by(self._left, factor)
        self._asked.append((release, output))
        return output

    def history(self):
        """The list of (release, output), one for each asking."""
        return list(self._asked)

    def twin(self):
        """A ledger of its own that is as this one."""
        other = Ledger(self._schema, self._table, self._limit)
        other._paid = self._paid
        other._left = self._left
        other._asked = list(self._asked)
        return other


def moved_by(schema, one, other, history):
    """The chance of all outputs of a history at one neighbour by that at the other one."""
    check_schema(schema)
    check_table(schema, one)
    check_table(schema, other)
    if not are_neighbours(schema, one, other):
        raise InvalidPair((one, other))
    for release, _ in history:
        check_release(schema, release)
    if not all(_is_output(release, output) for release, output in history):
        raise InvalidOutputs(history)
    chance = _chance_of_all(schema, other, history)
    if chance == ZERO:
        raise DividedByZero(history)
    return by(_chance_of_all(schema, one, history), chance)


def _drawn(row, lot):
    """The first output so that the chances from output 0 to it sum up to more than a lot."""
    output, behind = 0, row[0]
    while not below(lot, behind):
        output += 1
        behind = plus(behind, row[output])
    return output


def _is_output(release, told):
    return is_whole(told) and 0 <= told < len(release[3][0])


def _chance_of_all(schema, table, history):
    """The chance of all outputs of a history at a table."""
    found = ONE
    for release, output in history:
        found = times(found, outputs(schema, release, table)[output])
    return found
