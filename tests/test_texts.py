import random
import unittest

from shown import (
    asker_text, great_scheme, number_text, part_text, random_askers, random_schema, random_table, release_text,
    schema_text, scheme_text, some_release, some_tree, table_text, tree_text,
)
from test_questions import WIDE, drawn_question, drawn_term, drawn_test, fitting
from test_releases import COIN, SURE
from test_trees import END, MIXED, asking, chain
from walking import AGE, ALL, COUNT, OLD, QUESTIONS, SICK

from oneservesall.texts import (
    show_asker, show_number, show_part, show_release, show_scheme, show_schema, show_table, show_tree,
)


class ShowTest(unittest.TestCase):
    def test_numbers(self):
        for a, expected in [((0, 1), "0"), ((1, 1), "1"), ((-1, 1), "-1"), ((1, 2), "1/2"), ((-7, 3), "-7/3"),
                            ((10, 1), "10"), ((1, 10), "1/10"), ((123456789, 987654322), "123456789/987654322")]:
            self.assertEqual(show_number(a), expected)
            self.assertEqual(show_number(a=a), expected)
            self.assertEqual(number_text(a), expected)

    def test_long_integers(self):
        for digits in (17, 18, 19, 35, 36, 37, 54, 1000, 4000):
            for text in ("1" + "0" * (digits - 1), "9" * digits, "7" + "0" * (digits - 2) + "3",
                         ("1020" * digits)[:digits], "3" * (digits // 2) + "0" * (digits - digits // 2)):
                self.assertEqual(show_number((int(text), 1)), text)
                self.assertEqual(show_number((-int(text), 1)), "-" + text)
                self.assertEqual(show_number((-1, int(text))), "-1/" + text)

    def test_longer_ones_than_python_shows(self):
        n = 1
        for _ in range(5000):
            n *= 10
        self.assertEqual(show_number((n, 1)), "1" + "0" * 5000)
        self.assertEqual(show_number((7, n + 1)), "7/1" + "0" * 4999 + "1")
        self.assertEqual(show_number((-n - 3, n)), "-1" + "0" * 4999 + "3/1" + "0" * 5000)

    def test_terms_tests_and_questions(self):
        for told, expected in [(("number", 5), "5"), (("number", -99), "-99"), (("number", 0), "0"),
                               (AGE, "(value age)"), (("sum", AGE, ("number", -1)), "(sum (value age) -1)"),
                               (ALL, "(all)"), (("not", ALL), "(not (all))"), (SICK, "(is (value ill) 1)"),
                               (COUNT, "(count (is (value ill) 1))"), (OLD, "(sum (is (value ill) 1) (value age) 0 6)"),
                               (("kept", ("part", COUNT, 2), -3, 4), "(kept (part (count (is (value ill) 1)) 2) -3 4)"),
                               (("different", ALL, ("number", 7)), "(different (all) 7)"),
                               (("greatest", ALL, ("number", 7), 7, 7), "(greatest (all) 7 7 7)")]:
            self.assertEqual(show_part(told), expected)
            self.assertEqual(show_part(told=told), expected)

    def test_drawn_parts(self):
        rng = random.Random(251)
        for _ in range(80):
            for draw in (drawn_term, drawn_test, drawn_question):
                told = fitting(rng, draw, WIDE)
                self.assertEqual(show_part(told), part_text(told))

    def test_schemas(self):
        rng = random.Random(252)
        self.assertEqual(show_schema((("a", (-3,)),)), "a : -3")
        for _ in range(30):
            schema = random_schema(rng)
            self.assertEqual(show_schema(schema), schema_text(schema))
            self.assertEqual(show_schema(schema=schema), schema_text(schema))

    def test_tables(self):
        rng = random.Random(253)
        self.assertEqual(show_table(()), "none")
        self.assertEqual(show_table(((1, 0),)), "1 0")
        self.assertEqual(show_table(table=((9, 1), (1, 0), (9, 1))), "9 1\n1 0\n9 1")
        for many in (1, 2, 12, 20):
            schema = random_schema(rng)
            people = random_table(rng, schema, many)
            self.assertEqual(show_table(people), table_text(people))

    def test_schemes(self):
        rng = random.Random(254)
        self.assertEqual(show_scheme(SURE), "1")
        self.assertEqual(show_scheme(scheme=(((1, 2), (1, 2)), ((0, 1), (1, 1)))), "1/2 1/2\n0 1")
        told = great_scheme(rng)
        self.assertEqual(show_scheme(told), scheme_text(told))

    def test_releases(self):
        rng = random.Random(255)
        self.assertEqual(show_release(COIN), "(count (is (value ill) 1))\n0 1\n2/3 1/3\n1/3 2/3")
        self.assertEqual(show_release(release=(COUNT, -7, -7, SURE)), "(count (is (value ill) 1))\n-7 -7\n1")
        for rows, answers in [(1, 1), (2, 5), (20, 64), (5, 3)]:
            told = some_release(rng, WIDE, rows, answers)
            self.assertEqual(show_release(told), release_text(told))
        for question in QUESTIONS:
            self.assertEqual(show_release((question, 0, 0, SURE)), part_text(question) + "\n0 0\n1")

    def test_trees(self):
        rng = random.Random(256)
        self.assertEqual(show_tree(END), "end")
        self.assertEqual(show_tree(asking(COIN, END, asking((COUNT, -1, -1, SURE), END))),
                         "ask 0 1 : (count (is (value ill) 1)) : 2/3 1/3, 1/3 2/3\n  end\n"
                         "  ask -1 -1 : (count (is (value ill) 1)) : 1\n    end")
        self.assertEqual(show_tree(tree=MIXED), tree_text(MIXED))
        for _ in range(20):
            told = some_tree(rng, WIDE, 3)
            self.assertEqual(show_tree(told), tree_text(told))
        told = chain(COIN, 60, END)
        self.assertEqual(show_tree(told), tree_text(told))
        self.assertEqual(show_tree(told).split("\n")[60], "  " * 60 + "end")

    def test_askers(self):
        rng = random.Random(257)
        self.assertEqual(show_asker((((1, 1),), (((1, 2),),))), "1\n1/2")
        even = ((1, 2), (1, 2)), (((0, 1), (1, 1)), ((0, 1), (3, 2)))
        self.assertEqual(show_asker(asker=even), "1/2 1/2\n0 1\n0 3/2")
        for asker in random_askers(rng):
            self.assertEqual(show_asker(asker), asker_text(asker))


if __name__ == "__main__":
    unittest.main()
