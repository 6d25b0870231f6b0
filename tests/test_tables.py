import random
import unittest
from itertools import product

from raising import Raising

from oneservesall.errors import InvalidIndex, InvalidNumber, InvalidPerson, InvalidSchema, InvalidTable
from oneservesall.tables import (
    are_neighbours, is_person, is_schema, is_table, neighbours, persons, put, tables_of,
)

SCHEMA = (("age", (1, 5, 9)), ("ill", (0, 1)))
ONE_PERSON = (("a", (0,)),)
TWELVE = tuple((name, (k - 6,)) for k, name in enumerate("abcdefghijkl"))
SCHEMAS = [
    SCHEMA,
    ONE_PERSON,
    TWELVE,
    (("a", (-99, 99)),),
    (("a", (-4, -3, -2, -1, 0, 1, 2, 3)),),
    (("abcdefgh", (7,)), ("b", (7,))),
    (("az", (1,)), ("b", (1,)), ("ba", (1,)), ("z", (1,))),
    tuple((name, (0, 1)) if k < 3 else (name, (k,)) for k, name in enumerate("abcdefghijkl")),
]
DEEP = ()
for _ in range(3000):
    DEEP = ("a", DEEP)
NO_SCHEMAS = [
    (),
    ((),),
    (1,),
    ("a",),
    ("a", (1, 2)),
    (("a",),),
    (("a", (1,), ()),),
    (("a", 1),),
    (("a", "b"),),
    (("a", ()),),
    (("a", ("b",)),),
    (("a", ((1,),)),),
    ((1, (1,)),),
    ((("a",), (1,)),),
    (("", (1,)),),
    (("abcdefghi", (1,)),),
    (("A", (1,)),),
    (("a1", (1,)),),
    (("a b", (1,)),),
    (("`", (1,)),),
    (("{", (1,)),),
    (("\u00e9", (1,)),),
    (("a", (1, 1)),),
    (("a", (1, 2, 2)),),
    (("a", (2, 1)),),
    (("a", (1, 3, 2)),),
    (("a", (-100,)),),
    (("a", (100,)),),
    (("a", (0, 10 ** 40)),),
    (("a", (0, 1, 2, 3, 4, 5, 6, 7, 8)),),
    (("a", (1, "2")),),
    (("b", (1,)), ("a", (1,))),
    (("a", (1,)), ("a", (1,))),
    (("a", (1,)), ("a", (2,))),
    (("a", (1,)), ("c", (1,)), ("b", (1,))),
    (("a", (1,)), 5),
    (("a", (1,)), ("b", (1,)), ("",)),
    (DEEP,),
    DEEP,
    (("a", DEEP),),
    (("a", (DEEP,)),),
    ((DEEP, (1,)),),
    "a",
    7,
]
NO_PERSONS = [
    (),
    (1,),
    (1, 0, 0),
    (2, 0),
    (1, 2),
    (0, 1),
    (1, -1),
    ("age", "ill"),
    (1, "0"),
    (1, (0,)),
    ((1, 0),),
    ((1,), 0),
    (1, DEEP),
    DEEP,
    "10",
    7,
]
PEOPLE = ((1, 1), (9, 1), (5, 0))
NO_TABLES = [
    (1,),
    (1, 0),
    ("",),
    ((),),
    ((1,),),
    ((1, 0), (1,)),
    ((1, 0), ()),
    ((1, 0), 1),
    ((1, 0), (1, 2)),
    ((2, 0), (1, 0)),
    ((1, 0, 0),),
    (((1, 0),),),
    ((1, "0"),),
    (DEEP,),
    "",
    7,
]


def everyone(schema):
    """All persons by a walk of its own: the last column turns the quickest."""
    found = []

    def walk(person, left):
        if not left:
            found.append(tuple(person))
            return
        for value in left[0][1]:
            walk(person + [value], left[1:])

    walk([], list(schema))
    return found


def differing(one, other):
    return [k for k in range(len(one)) if one[k] != other[k]]


class FormsTest(Raising, unittest.TestCase):
    def test_schemas(self):
        for told in SCHEMAS:
            self.assertIs(is_schema(told), True, told)
            self.assertIs(is_schema(told=told), True)
        for told in NO_SCHEMAS:
            self.assertIs(is_schema(told), False)

    def test_persons(self):
        for schema in SCHEMAS:
            for person in everyone(schema):
                self.assertIs(is_person(schema, person), True)
                self.assertIs(is_person(told=person, schema=schema), True)
        for told in NO_PERSONS:
            self.assertIs(is_person(SCHEMA, told), False)
        self.assertIs(is_person(ONE_PERSON, (0,)), True)
        self.assertIs(is_person(ONE_PERSON, ()), False)
        self.assertIs(is_person(TWELVE, tuple(range(-6, 6))), True)
        self.assertIs(is_person(TWELVE, tuple(range(-5, 7))), False)

    def test_tables(self):
        for told in [(), PEOPLE, PEOPLE[::-1], PEOPLE[:1] * 12, ((1, 0),) * 40]:
            self.assertIs(is_table(SCHEMA, told), True)
            self.assertIs(is_table(told=told, schema=SCHEMA), True)
        for told in NO_TABLES:
            self.assertIs(is_table(SCHEMA, told), False)
        for wrong in NO_PERSONS:
            self.assertIs(is_table(SCHEMA, PEOPLE + (wrong,)), False)

    def test_each_function_takes_schemas_alone(self):
        for wrong in NO_SCHEMAS:
            for function in (is_person, is_table, neighbours):
                self.raises_lightly(InvalidSchema, wrong, function, wrong, (7,))
            self.raises_lightly(InvalidSchema, wrong, persons, wrong)
            self.raises_lightly(InvalidSchema, wrong, tables_of, wrong, -1)
            self.raises_lightly(InvalidSchema, wrong, are_neighbours, wrong, (7,), (8,))
            self.raises_lightly(InvalidSchema, wrong, put, wrong, (7,), -1, (7,))

    def test_each_function_takes_tables_alone(self):
        for wrong in NO_TABLES:
            self.raises_lightly(InvalidTable, wrong, neighbours, SCHEMA, wrong)
            self.raises_lightly(InvalidTable, wrong, put, SCHEMA, wrong, -1, (7,))
            self.raises_lightly(InvalidTable, wrong, are_neighbours, SCHEMA, wrong, (7,))
            self.raises_lightly(InvalidTable, wrong, are_neighbours, SCHEMA, PEOPLE, wrong)
            self.raises_lightly(InvalidTable, wrong, are_neighbours, SCHEMA, (), wrong)


class PersonsTest(Raising, unittest.TestCase):
    def test_by_a_walk(self):
        for schema in SCHEMAS:
            expected = everyone(schema)
            self.assertEqual(persons(schema), expected)
            self.assertEqual(persons(schema=schema), sorted(set(expected)))
            self.assertIs(type(persons(schema)), list)
        self.assertEqual(persons(SCHEMA), [(1, 0), (1, 1), (5, 0), (5, 1), (9, 0), (9, 1)])
        self.assertEqual(persons(TWELVE), [tuple(range(-6, 6))])

    def test_each_list_is_new(self):
        persons(SCHEMA).clear()
        self.assertEqual(len(persons(SCHEMA)), 6)
        tables_of(SCHEMA, 0).clear()
        self.assertEqual(tables_of(SCHEMA, 0), [()])


class TablesOfTest(Raising, unittest.TestCase):
    def test_by_a_walk(self):
        for schema in SCHEMAS:
            for n in range(4):
                if len(everyone(schema)) ** n <= 1728:
                    expected = [tuple(told) for told in product(everyone(schema), repeat=n)]
                    self.assertEqual(tables_of(schema, n), expected)
                    self.assertEqual(tables_of(n=n, schema=schema), sorted(set(expected)))

    def test_edges(self):
        for schema in SCHEMAS:
            self.assertEqual(tables_of(schema, 0), [()])
            self.assertEqual(tables_of(schema, 1), [(person,) for person in everyone(schema)])
        self.assertEqual(tables_of(ONE_PERSON, 12), [((0,),) * 12])
        dozen = (("a", (0, 1, 2)), ("b", (0, 1, 2, 3)))
        self.assertEqual(len(tables_of(dozen, 3)), 1728)
        self.assertTrue(all(is_table(dozen, told) and len(told) == 3 for told in tables_of(dozen, 3)))

    def test_wrong_inputs(self):
        for wrong in (-1, -10 ** 20):
            self.raises(InvalidNumber, wrong, tables_of, SCHEMA, wrong)


class NeighboursTest(Raising, unittest.TestCase):
    def test_all_tables_by_a_walk(self):
        for schema in [SCHEMA, ONE_PERSON, SCHEMAS[3], (("a", (0, 1)), ("b", (3,)), ("c", (-1, 4)))]:
            for n in range(4):
                if len(everyone(schema)) ** n > 300:
                    continue
                tables = [tuple(told) for told in product(everyone(schema), repeat=n)]
                for one in tables:
                    expected = [other for other in tables if len(differing(one, other)) == 1]
                    self.assertEqual(neighbours(schema, one), expected)
                    for other in random.Random(n).sample(tables, min(40, len(tables))):
                        self.assertIs(are_neighbours(schema, one, other), len(differing(one, other)) == 1)

    def test_edges(self):
        self.assertEqual(neighbours(SCHEMA, ()), [])
        self.assertEqual(neighbours(ONE_PERSON, ((0,), (0,))), [])
        self.assertEqual(neighbours(table=((-99,), (-99,)), schema=SCHEMAS[3]), [((-99,), (99,)), ((99,), (-99,))])
        many = neighbours(SCHEMA, ((1, 0),) * 12)
        self.assertEqual(len(many), 60)
        self.assertEqual(many, sorted(set(many)))
        self.assertTrue(all(are_neighbours(SCHEMA, ((1, 0),) * 12, told) for told in many))

    def test_one_place_two_places_none(self):
        table = ((1, 1), (9, 1), (5, 0))
        self.assertIs(are_neighbours(SCHEMA, table, ((1, 1), (9, 1), (5, 1))), True)
        self.assertIs(are_neighbours(other=((1, 1), (1, 0), (5, 0)), one=table, schema=SCHEMA), True)
        self.assertIs(are_neighbours(SCHEMA, table, ((1, 1), (9, 0), (5, 1))), False)
        self.assertIs(are_neighbours(SCHEMA, table, table), False)
        self.assertIs(are_neighbours(SCHEMA, (), ()), False)
        # The same persons in another order differ in two places.
        self.assertIs(are_neighbours(SCHEMA, table, ((9, 1), (1, 1), (5, 0))), False)
        self.assertIs(are_neighbours(SCHEMA, ((1, 1), (1, 1)), ((1, 1), (1, 0))), True)

    def test_unlike_many_persons(self):
        self.assertIs(are_neighbours(SCHEMA, ((1, 1),), ()), False)
        self.assertIs(are_neighbours(SCHEMA, ((1, 1), (1, 1)), ((1, 1),)), False)
        self.assertIs(are_neighbours(SCHEMA, ((1, 1),), ((1, 0), (1, 1))), False)
        self.assertIs(are_neighbours(SCHEMA, ((1, 0),), ((1, 1), (1, 1))), False)


class PutTest(Raising, unittest.TestCase):
    def test_each_place(self):
        for index in range(3):
            for person in everyone(SCHEMA):
                expected = list(PEOPLE)
                expected[index] = person
                self.assertEqual(put(SCHEMA, PEOPLE, index, person), tuple(expected))
                self.assertEqual(put(person=person, index=index, table=PEOPLE, schema=SCHEMA), tuple(expected))

    def test_wrong_inputs(self):
        for wrong in NO_PERSONS:
            self.raises_lightly(InvalidPerson, wrong, put, SCHEMA, PEOPLE, -1, wrong)
            self.raises_lightly(InvalidPerson, wrong, put, SCHEMA, (), 0, wrong)
        for wrong in (-1, 3, 10 ** 20):
            self.raises(InvalidIndex, wrong, put, SCHEMA, PEOPLE, wrong, (1, 1))
        self.raises(InvalidIndex, 0, put, SCHEMA, (), 0, (1, 1))


if __name__ == "__main__":
    unittest.main()
