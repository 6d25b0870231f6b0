import random
import unittest

from exact import F, pair, random_scheme
from raising import Raising
from test_releases import COIN, HALVES, NO_RELEASES, SURE, TABLE, TOLD
from test_tables import DEEP, NO_SCHEMAS, NO_TABLES
from walking import (
    AGE, ALL, COUNT, LONE, OLD, PAIR, QUAD, QUESTIONS, SCHEMA, TRIO, Reaching, are_moved, drawn_questions, kept_row,
    least_factor, random_release, tables,
)

from oneservesall.errors import InvalidNumber, InvalidRelease, InvalidSchema, InvalidTable, InvalidTree
from oneservesall.releases import release_factor
from oneservesall.trees import is_tree, row, tree_chances, tree_factor, way_bound, ways

END = ("end",)
SAY = (COUNT, 0, 0, SURE)
THREE = (OLD, 0, 1, (((1, 2), (1, 4), (1, 4)), ((1, 4), (1, 4), (1, 2))))
PARTING = (COUNT, 0, 1, (((0, 1), (1, 1)), ((1, 2), (1, 2))))
MIXED = ("ask", THREE, (END, ("ask", COIN, (END, END)), ("ask", SAY, (("ask", COIN, (END, END)),))))


def asking(release, *branches):
    return "ask", release, branches


def grown(rng, schema, deep, zeros=False):
    """A tree with unlike branches, at most so deep, of a question that is drawn at each ask."""
    if deep == 0 or rng.random() < 0.15:
        return END
    question = rng.choice(QUESTIONS if schema == SCHEMA else drawn_questions(rng, schema, 1))
    release = random_release(rng, schema, question, rng.randint(1, 3), zeros)
    return asking(release, *[grown(rng, schema, deep - 1, zeros) for _ in release[3][0]])


def chain(release, deep, last, at=0):
    """A tree so many asks deep, whose branches end but for the one at a place, with the last tree at its end."""
    found = last
    for _ in range(deep):
        branches = [END] * len(release[3][0])
        branches[at] = found
        found = asking(release, *branches)
    return found


def walked(tree, table, schema):
    """All (output, chance) of a tree at a table, as products of fractions along each way."""
    if tree[0] == "end":
        return [((), F(1))]
    shares = [F(*x) for x in kept_row(schema, tree[1], table)]
    return [((r,) + output, x * y) for r, x in enumerate(shares) for output, y in walked(tree[2][r], table, schema)]


def releases_of(tree):
    return [] if tree == END else [tree[1]] + [told for branch in tree[2] for told in releases_of(branch)]


def along(tree, factors):
    """The products of factors along all ways, in fractions."""
    if tree == END:
        return [F(1)]
    return [F(*factors[tree[1]]) * x for branch in tree[2] for x in along(branch, factors)]


NO_TREES = [
    7,
    "end",
    (),
    ("End",),
    ("end", ()),
    ("end", END),
    (END,),
    (0,),
    ("ask",),
    ("ask", COIN),
    ("ask", COIN, (END, END), END),
    ("ask", COIN, END),
    ("ask", COIN, ()),
    ("ask", COIN, (END,)),
    ("ask", COIN, (END, END, END)),
    ("ask", COIN, "ab"),
    ("ask", COIN, 2),
    ("ask", COIN, (END, "end")),
    ("ask", COIN, (7, END)),
    ("ask", COIN, (END, ())),
    ("ask", COIN, (END, COIN)),
    ("ask", COIN, (END, ("ask", COIN, (END,)))),
    ("ask", COIN, (("end", 1), END)),
    ("Ask", COIN, (END, END)),
    ("end", COIN, (END, END)),
    (("ask",), COIN, (END, END)),
    (COIN, "ask", (END, END)),
    COIN,
    DEEP,
    (DEEP,),
    ("ask", DEEP, DEEP),
    ("ask", COIN, DEEP),
    ("ask", COIN, (DEEP, DEEP)),
    ("ask", COIN, (END, DEEP)),
    ("ask", COIN, (("ask", DEEP), ("ask", DEEP))),
]


class IsTreeTest(Raising, unittest.TestCase):
    def test_right_ones(self):
        for told in [END, asking(COIN, END, END), MIXED, asking(SAY, MIXED), asking(THREE, MIXED, END, MIXED)]:
            self.assertIs(is_tree(SCHEMA, told), True)
            self.assertIs(is_tree(told=told, schema=SCHEMA), True)
        self.assertIs(is_tree(PAIR, MIXED), False)
        self.assertIs(is_tree(PAIR, END), True)

    def test_wrong_ones(self):
        for told in NO_TREES:
            self.assertIs(is_tree(SCHEMA, told), False)
            self.assertIs(is_tree(SCHEMA, asking(COIN, MIXED, told)), False)
            self.assertIs(is_tree(SCHEMA, asking(COIN, told, MIXED)), False)
        for wrong in NO_RELEASES:
            self.assertIs(is_tree(SCHEMA, ("ask", wrong, (END, END))), False)
            self.assertIs(is_tree(SCHEMA, asking(COIN, ("ask", COIN, (END, END)), ("ask", wrong, (END, END)))), False)

    def test_a_wrong_one_beside_a_right_one_that_is_equal(self):
        for wrong in ((COUNT, False, True, TOLD), (COUNT, 0, 1, (((2, 3), (True, 3)), ((True, 3), (2, 3))))):
            right, told = asking(COIN, END, END), asking(wrong, END, END)
            self.assertEqual(right, told)
            self.assertIs(is_tree(SCHEMA, asking(COIN, right, told)), False)
            self.assertIs(is_tree(SCHEMA, asking(COIN, told, right)), False)

    def test_drawn_ones_with_one_part_wrong(self):
        rng = random.Random(231)
        for _ in range(60):
            told = grown(rng, SCHEMA, 3, True)
            self.assertIs(is_tree(SCHEMA, told), True)
            if told != END:
                release = told[1]
                self.assertIs(is_tree(SCHEMA, ("ask", release, told[2][:-1])), False)
                self.assertIs(is_tree(SCHEMA, ("ask", release, told[2] + (END,))), False)
                for wrong in (release[:2] + (release[2] + 1,) + release[3:],
                              release[:3] + (release[3] + release[3][:1],), (("count",),) + release[1:]):
                    self.assertIs(is_tree(SCHEMA, ("ask", wrong, told[2])), False)

    def test_sixty_asks_deep(self):
        for release in (SAY, COIN, THREE):
            last = len(release[3][0]) - 1
            for at in {0, last}:
                self.assertIs(is_tree(SCHEMA, chain(release, 60, END, at)), True)
                for wrong in NO_TREES:
                    self.assertIs(is_tree(SCHEMA, chain(release, 60, wrong, at)), False)
                    self.assertIs(is_tree(SCHEMA, chain(release, 30, chain(release, 29, wrong, last), at)), False)
            # All branches alike: a tree of more ways than could be walked, right or with one part wrong.
            for last_one, expected in ((END, True), (("end", 1), False), (asking(COIN, END), False)):
                told = last_one
                for _ in range(60):
                    told = asking(release, *[told] * len(release[3][0]))
                self.assertIs(is_tree(SCHEMA, told), expected)

    def test_very_many_branches_of_which_one_is_wrong(self):
        rng = random.Random(238)

        def broad(deep, wrong, way):
            """A tree of unlike releases with twelve outputs each, with the wrong part at the end of a way."""
            if deep == 0:
                return wrong if way == () else END
            release = (COUNT, 0, 1, random_scheme(rng, 2, 12))
            return asking(release, *[broad(deep - 1, wrong, way[1:] if way and way[0] == r else None) for r in range(12)])

        for way in [(0, 0, 0), (0, 11, 11), (5, 0, 7), (11, 11, 0), (11, 11, 11)]:
            self.assertIs(is_tree(SCHEMA, broad(3, END, way)), True)
            for wrong in (("end", 1), asking(COIN, END), asking((COUNT, 0, 2, TOLD), END, END)):
                self.assertIs(is_tree(SCHEMA, broad(3, wrong, way)), False)

    def test_sixty_asks_deep_with_unlike_branches_that_come_again(self):
        for last, expected in ((END, True), (asking(SAY, END, END), False)):
            one, other = END, asking(SAY, last)
            for _ in range(59):
                one, other = asking(COIN, one, other), asking(COIN, other, one)
            self.assertIs(is_tree(SCHEMA, asking(COIN, one, other)), expected)

    def test_schemas(self):
        for wrong in NO_SCHEMAS:
            self.raises_lightly(InvalidSchema, wrong, is_tree, wrong, (7,))


class RowTest(Raising, unittest.TestCase):
    def test_none_one_and_three(self):
        self.assertEqual(row(()), END)
        self.assertEqual(row((COIN,)), asking(COIN, END, END))
        last = asking(THREE, END, END, END)
        self.assertEqual(row((SAY, COIN, THREE)), asking(SAY, asking(COIN, last, last)))
        self.assertEqual(row(releases=(THREE, SAY)), asking(THREE, *[asking(SAY, END)] * 3))
        self.assertIs(is_tree(SCHEMA, row((COIN, THREE, COIN))), True)
        self.assertIs(is_tree(SCHEMA, row((COIN,) * 60)), True)

    def test_questions_and_ends_are_not_looked_at(self):
        for told in [("?", 5, 1, TOLD), (7, "a", (), HALVES), (COUNT, 0, 9, TOLD), (DEEP, DEEP, DEEP, TOLD)]:
            found = row((told,))
            self.assertEqual(found[0], "ask")
            self.assertIs(found[1], told)
            self.assertEqual(found[2], (END, END))

    def test_wrong_inputs(self):
        for wrong in [7, "abcd", (), COUNT, (COUNT, 0, 1), (COUNT, 0, 1, TOLD, 1), (COUNT, 0, 1, ()), (COUNT, 0, 1, 7),
                      (COUNT, 0, 1, (((1, 2), (1, 3)),)), (COUNT, 0, 1, ((1, 2), (1, 2))), (TOLD, 0, 1, COUNT), TOLD,
                      DEEP, (COUNT, 0, 1, DEEP)]:
            self.raises_lightly(InvalidRelease, wrong, row, (wrong,))
            self.raises_lightly(InvalidRelease, wrong, row, (COIN, wrong, (7,), COIN))


class WaysTest(Raising, unittest.TestCase):
    def test_known_ones(self):
        self.assertEqual(ways(END), [()])
        self.assertEqual(ways(MIXED), [(0,), (1, 0), (1, 1), (2, 0, 0), (2, 0, 1)])
        self.assertEqual(ways(tree=row((COIN, THREE))), [(r, s) for r in range(2) for s in range(3)])
        self.assertEqual(ways(chain(SAY, 60, END)), [(0,) * 60])
        self.assertEqual(ways(chain(COIN, 60, END)), [(0,) * 60] + [(0,) * k + (1,) for k in range(59, -1, -1)])

    def test_drawn_ones(self):
        rng = random.Random(232)
        for _ in range(40):
            told = grown(rng, SCHEMA, 3)
            expected = [output for output, _ in walked(told, (), SCHEMA)]
            self.assertEqual(ways(told), expected)
            self.assertEqual(expected, sorted(set(expected)))

    def test_questions_and_ends_are_not_looked_at(self):
        for told in [("?", 5, 1, TOLD), (7, "a", (), HALVES), (COUNT, 0, 9, TOLD), (DEEP, DEEP, DEEP, TOLD)]:
            self.assertEqual(ways(asking(told, END, asking(told, END, END))), [(0,), (1, 0), (1, 1)])

    def test_each_list_is_new(self):
        for told in (END, MIXED):
            expected = list(ways(told))
            ways(told).clear()
            self.assertEqual(ways(told), expected)
            self.assertIs(type(ways(told)), list)

    def test_wrong_inputs(self):
        for wrong in NO_TREES + [asking((COUNT, 0, 1), END, END), asking((COUNT, 0, 1, 7), END), asking(7, END),
                                 asking((COUNT, 0, 1, (((1, 2), (1, 3)),)), END, END)]:
            self.raises_lightly(InvalidTree, wrong, ways, wrong)
            told = asking(COIN, END, wrong)
            self.raises_lightly(InvalidTree, told, ways, told)


class TreeChancesTest(Raising, unittest.TestCase):
    def test_products_along_each_way(self):
        rng = random.Random(233)
        for schema in (SCHEMA, TRIO):
            for zeros in (False, True):
                for _ in range(25):
                    told = grown(rng, schema, 3, zeros)
                    for table in [()] + rng.sample(tables(schema, 2), 4) + rng.sample(tables(schema, 1), 2):
                        expected = tuple((output, pair(x)) for output, x in walked(told, table, schema))
                        self.assertEqual(tree_chances(schema, told, table), expected)
                        self.assertEqual(tree_chances(table=table, tree=told, schema=schema), expected)
                        self.assertEqual(sum(F(*x) for _, x in expected), 1)

    def test_edges(self):
        self.assertEqual(tree_chances(SCHEMA, END, TABLE), (((), (1, 1)),))
        self.assertEqual(tree_chances(SCHEMA, asking(PARTING, END, asking(COIN, END, END)), ((1, 0),)),
                         (((0,), (0, 1)), ((1, 0), (2, 3)), ((1, 1), (1, 3))))
        self.assertEqual(tree_chances(SCHEMA, chain(SAY, 60, END), TABLE), (((0,) * 60, (1, 1)),))
        self.assertEqual(tree_chances(SCHEMA, row((COIN,) * 2), ((1, 0),)),
                         (((0, 0), (4, 9)), ((0, 1), (2, 9)), ((1, 0), (2, 9)), ((1, 1), (1, 9))))
        self.assertEqual(len(tree_chances(SCHEMA, row(((COUNT, 0, 0, (((1, 4),) * 4,)),) * 3), TABLE)), 64)

    def test_wrong_inputs(self):
        for wrong in NO_SCHEMAS:
            self.raises_lightly(InvalidSchema, wrong, tree_chances, wrong, (7,), (7,))
        for wrong in NO_TREES + [asking(told, END, END) for told in NO_RELEASES]:
            self.raises_lightly(InvalidTree, wrong, tree_chances, SCHEMA, wrong, (7,))
        for wrong in NO_TABLES:
            self.raises_lightly(InvalidTable, wrong, tree_chances, SCHEMA, MIXED, wrong)


class TreeFactorTest(Reaching, Raising, unittest.TestCase):
    def told_right(self, schema, tree, n):
        chances = {
            table: {output: pair(x) for output, x in walked(tree, table, schema)} for table in tables(schema, n)
        }
        told = tree_factor(schema, tree, n)
        self.reaches_the_least(schema, chances, told, n)
        self.assertEqual(tree_factor(n=n, tree=tree, schema=schema)[0], told[0])
        return told[0]

    def test_all_tables(self):
        rng = random.Random(234)
        found = []
        for schema, n in [(SCHEMA, 1), (SCHEMA, 2), (PAIR, 1), (PAIR, 4), (TRIO, 2), (QUAD, 2)]:
            for zeros in (False, False, True):
                for _ in range(12):
                    found.append(self.told_right(schema, grown(rng, schema, 3, zeros), n))
        self.assertGreater(found.count(None), 5)
        self.assertGreater(len(set(found)), 20)

    def test_rows_against_their_products(self):
        """The outputs of a row of releases about one count: none moves by more than all of them together."""
        rng = random.Random(235)
        for many in (0, 1, 2, 3):
            for _ in range(6):
                releases = tuple(random_release(rng, SCHEMA, rng.choice((COUNT, OLD)), 2) for _ in range(many))
                factor = self.told_right(SCHEMA, row(releases), 2)
                bound = F(1)
                for release in releases:
                    bound *= F(*release_factor(SCHEMA, release, 2)[0])
                self.assertLessEqual(F(*factor), bound)
        self.assertEqual(tree_factor(SCHEMA, row((COIN, COIN, COIN)), 1)[0], (8, 1))

    def test_the_most_tables(self):
        rng = random.Random(236)
        releases = [(question, 0, 4, random_scheme(rng, 5, 4)) for question in (COUNT, OLD, ("different", ALL, AGE))]
        self.told_right(SCHEMA, row(tuple(releases)), 3)
        self.told_right(QUAD, row(((("count", ALL), 0, 9, random_scheme(rng, 10, 64)),)), 4)
        self.assertIsNotNone(tree_factor(SCHEMA, row(tuple(releases)), 4)[0])

    def test_less_than_the_greatest_product(self):
        # No two neighbours move both of them: one moves at the first sick person, one at the second.
        even, odd = ((1, 2), (1, 2)), ((1, 4), (3, 4))
        early, late = (COUNT, 0, 2, (even, odd, odd)), (COUNT, 0, 2, (even, even, odd))
        self.assertEqual((tree_factor(SCHEMA, row((early, late)), 2)[0], way_bound(SCHEMA, row((early, late)), 2)),
                         ((2, 1), (4, 1)))
        # The coin is asked behind the answer of the first that moves less.
        bent = (COUNT, 0, 1, (((2, 3), (1, 3)), even))
        told = asking(bent, asking(COIN, END, END), END)
        self.assertEqual((tree_factor(SCHEMA, told, 1)[0], way_bound(SCHEMA, told, 1)), ((8, 3), (3, 1)))
        told = asking(bent, END, asking(COIN, END, END))
        self.assertEqual((tree_factor(SCHEMA, told, 1)[0], way_bound(SCHEMA, told, 1)), ((3, 1), (3, 1)))

    def test_chances_of_0(self):
        """An output that one neighbour alone has, and one that is cut off for both by different releases."""
        factor, one, other, output = tree_factor(SCHEMA, asking(COIN, asking(PARTING, END, END), END), 1)
        self.assertEqual((factor, one[0][1], other[0][1], output), (None, 1, 0, (0, 0)))
        never = (COUNT, 0, 1, (((0, 1), (1, 3), (2, 3)), ((0, 1), (2, 3), (1, 3))))
        tree = asking(never, asking(PARTING, END, END), END, END)
        self.assertEqual(tree_factor(SCHEMA, tree, 1)[0], (2, 1))
        self.assertIsNone(way_bound(SCHEMA, tree, 1))
        # Answer 0 of the first is had by the well alone, answer 0 of the second by the sick alone.
        apart = (COUNT, 0, 1, (((1, 1), (0, 1)), ((0, 1), (1, 1))))
        factor, one, other, output = tree_factor(SCHEMA, asking(apart, END, asking(PARTING, END, END)), 1)
        self.assertIsNone(factor)
        self.assertIn((one[0][1], output), [(0, (0,)), (1, (1, 0)), (1, (1, 1))])

    def test_edges(self):
        for n in range(1, 5):
            factor, one, other, output = tree_factor(SCHEMA, END, n)
            self.assertEqual((factor, are_moved(one, other), output), ((1, 1), True, ()))
            first = ((4, 0),) * n
            parting = (("count", ALL), 0, 1, PARTING[3])
            for told, output in [(END, ()), (asking(parting, END, END), (0,)), (row((parting, parting)), (0, 0)),
                                 (asking(parting, asking(parting, END, END), END), (0, 0))]:
                self.assertEqual(tree_factor(LONE, told, n), ((1, 1), first, first, output))

    def test_wrong_inputs(self):
        for function in (tree_factor, way_bound):
            for wrong in NO_SCHEMAS:
                self.raises_lightly(InvalidSchema, wrong, function, wrong, (7,), 0)
            for wrong in NO_TREES + [asking(told, END, END) for told in NO_RELEASES]:
                self.raises_lightly(InvalidTree, wrong, function, SCHEMA, wrong, 0)
            for wrong in (0, -1, -10 ** 20):
                self.raises(InvalidNumber, wrong, function, SCHEMA, MIXED, wrong)
                self.raises(InvalidNumber, wrong, function, SCHEMA, END, wrong)


class WayBoundTest(Raising, unittest.TestCase):
    def test_products_along_each_way(self):
        rng = random.Random(237)
        less = 0
        for schema, n in [(SCHEMA, 1), (SCHEMA, 2), (PAIR, 3), (TRIO, 2)]:
            for zeros in (False, False, True):
                for _ in range(12):
                    told = grown(rng, schema, 3, zeros)
                    factors = {}
                    for release in releases_of(told):
                        rows = {table: kept_row(schema, release, table) for table in tables(schema, n)}
                        factor = least_factor(schema, rows, n)
                        factors[release] = None if factor is None else pair(factor)
                    expected = None if None in factors.values() else pair(max(along(told, factors)))
                    self.assertEqual(way_bound(schema, told, n), expected)
                    self.assertEqual(way_bound(n=n, tree=told, schema=schema), expected)
                    if expected is not None:
                        factor = F(*tree_factor(schema, told, n)[0])
                        self.assertLessEqual(factor, F(*expected))
                        less += factor < F(*expected)
        self.assertGreater(less, 3)

    def test_edges(self):
        for n in range(1, 5):
            self.assertEqual(way_bound(SCHEMA, END, n), (1, 1))
            self.assertEqual(way_bound(LONE, row(((("count", ALL), 0, 1, PARTING[3]),) * 3), n), (1, 1))
        self.assertEqual(way_bound(SCHEMA, row((COIN,) * 60), 1), (2 ** 60, 1))
        self.assertEqual(way_bound(SCHEMA, chain(COIN, 60, END, 1), 2), (2 ** 60, 1))
        self.assertEqual(way_bound(SCHEMA, asking(COIN, END, row((THREE, COIN))), 1), (8, 1))
        self.assertIsNone(way_bound(SCHEMA, chain(COIN, 3, asking(PARTING, END, END), 1), 1))


if __name__ == "__main__":
    unittest.main()
