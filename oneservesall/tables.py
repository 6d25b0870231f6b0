"""Schemas, their persons, and tables of persons with their neighbours."""

from oneservesall.errors import InvalidPerson, InvalidSchema, InvalidTable
from oneservesall.numbers import check_count, check_index, is_whole


def is_schema(told):
    """True for an ascending tuple of columns (name, values), one or more, each name once."""
    if not isinstance(told, tuple) or len(told) == 0 or not all(_is_column(column) for column in told):
        return False
    return _ascends([name for name, _ in told])


def is_person(schema, told):
    """True for a tuple with one value of each column."""
    check_schema(schema)
    return _is_person(schema, told)


def is_table(schema, told):
    """True for a tuple of persons."""
    check_schema(schema)
    return _is_table(schema, told)


def is_name(told):
    """True for a text of one to eight letters from a to z."""
    return isinstance(told, str) and 1 <= len(told) <= 8 and all("a" <= sign <= "z" for sign in told)


def check_schema(told):
    """Raises InvalidSchema for what is no schema."""
    if not is_schema(told):
        raise InvalidSchema(told)


def check_person(schema, told):
    """Raises InvalidPerson for what is no person of a schema that is one."""
    if not _is_person(schema, told):
        raise InvalidPerson(told)


def check_table(schema, told):
    """Raises InvalidTable for what is no table of a schema that is one."""
    if not _is_table(schema, told):
        raise InvalidTable(told)


def persons(schema):
    """The ascending list of all persons."""
    check_schema(schema)
    found = [()]
    for _, values in schema:
        found = [(*person, value) for person in found for value in values]
    return found


def tables_of(schema, n):
    """The ascending list of all tables of n persons."""
    check_schema(schema)
    check_count(n)
    everyone = persons(schema)
    found = [()]
    for _ in range(n):
        found = [(*table, person) for table in found for person in everyone]
    return found


def neighbours(schema, table):
    """The ascending list of the tables that differ from a table in just one place."""
    check_schema(schema)
    check_table(schema, table)
    everyone = persons(schema)
    moved = [_put(table, at, other) for at, person in enumerate(table) for other in everyone if other != person]
    return sorted(moved)


def are_neighbours(schema, one, other):
    """True if two tables have as many persons and differ in just one place."""
    check_schema(schema)
    check_table(schema, one)
    check_table(schema, other)
    return len(one) == len(other) and len([a for a, b in zip(one, other) if a != b]) == 1


def put(schema, table, index, person):
    """The table with another person at a place."""
    check_schema(schema)
    check_table(schema, table)
    check_person(schema, person)
    check_index(index, len(table))
    return _put(table, index, person)


def _is_column(told):
    if not isinstance(told, tuple) or len(told) != 2:
        return False
    name, values = told
    if not is_name(name) or not isinstance(values, tuple) or not 1 <= len(values) <= 8:
        return False
    return all(is_whole(value) and -99 <= value <= 99 for value in values) and _ascends(values)


def _ascends(told):
    return all(a < b for a, b in zip(told, told[1:]))


def _is_person(schema, told):
    if not isinstance(told, tuple) or len(told) != len(schema):
        return False
    return all(is_whole(value) and value in values for value, (_, values) in zip(told, schema))


def _is_table(schema, told):
    return isinstance(told, tuple) and all(_is_person(schema, person) for person in told)


def _put(table, index, person):
    return table[:index] + (person,) + table[index + 1:]
