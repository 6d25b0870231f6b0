"""What holds over the whole program: what is told can be handed on, and nothing handed in is changed."""

import copy
import unittest

from exact import F, LONG_RATIOS, pair
from raising import Raising
from test_releases import COIN
from test_trees import MIXED
from walking import AGE, ALL, COUNT, OLD, SCHEMA, SICK

from oneservesall import (
    best, chances, consoles, folds, ladders, ledgers, makes, numbers, odds, questions, readers, readings, releases,
    samplers, schemes, steady, stretches, sums, tables, texts, trees,
)

TOLD = (((2, 3), (1, 3)), ((1, 3), (2, 3)))
LONG = (12345678, 98765431)
PEOPLE = ((1, 1), (5, 0))
# A ratio whose numbers grow as long as numbers of eight digits can in a ladder of ten answers.
GREAT = (99999988, 99999989)


class HandedOnTest(Raising, unittest.TestCase):
    """What one function tells, however great its numbers, is taken by the others."""

    def test_ladders_readings_and_what_is_made_of_them(self):
        for ratio in LONG_RATIOS:
            for n in (1, 4, 9):
                told = ladders.ladder(n, ratio)
                self.assertTrue(schemes.is_scheme(told))
                number, (i, j, r) = schemes.factor(told)
                self.assertEqual(number, numbers.by((1, 1), ratio))
                self.assertEqual(ladders.ratio_for(number), ratio)
                self.assertEqual(numbers.times(number, told[j][r]), told[i][r])
                self.assertTrue(schemes.has_factor(told, number))
                both = schemes.asked_both(told, told)
                self.assertEqual(schemes.factor(both)[0], numbers.power(number, 2))
                self.assertEqual(odds.moved(both, i, j)[0], numbers.power(number, 2))
                self.assertEqual(texts.show_scheme(both).count("\n"), n)
                reading = tuple(min(n, k + 1) for k in range(n + 1))
                read = readings.read_ladder(n, ratio, reading)
                mixed = readings.mixed_of(read, ratio)
                self.assertEqual(mixed, tuple(tuple((int(k == j), 1) for j in range(n + 1)) for k in reading))
                self.assertIsNone(readings.bend(read, ratio))
                twice = schemes.read_by(told, told)
                self.assertEqual(readings.mixed_of(twice, ratio), told)
                self.assertEqual(schemes.turned(twice), schemes.read_by(told, schemes.turned(told)))
                belief = odds.behind(twice[0], told, n)
                self.assertTrue(schemes.is_scheme((belief,)))
                self.assertEqual(odds.odds(belief, n, 0), numbers.times(odds.odds(twice[0], n, 0),
                                                                        numbers.by(told[n][n], told[0][n])))
                self.assertTrue(F(*odds.gain(belief, told)) >= F(*numbers.greatest(belief)))
                self.assertTrue(F(*odds.told_apart(twice[0], twice[n])) <= F(*odds.told_apart(told[0], told[n])))
                self.assertEqual(schemes.blended(told, twice, belief[0])[0][0],
                                 numbers.plus(numbers.times(belief[0], told[0][0]),
                                              numbers.times(numbers.minus((1, 1), belief[0]), twice[0][0])))

    def test_the_best_and_the_steady(self):
        loss = tuple(tuple(pair(F(d * k, 99999989)) for d in (0, 7654321, 22222222)) for k in (3, 1, 2))
        belief = ladders.ladder(2, GREAT)[1]
        asker = (belief, loss)
        for ratio in LONG_RATIOS:
            number, reading, paper = best.best(2, ratio, asker)
            self.assertEqual((best.shown(paper), best.fault(2, ratio, asker, paper)), (number, None))
            self.assertTrue(best.is_shown(2, ratio, asker, paper))
            self.assertEqual(readings.cost(readings.read_ladder(2, ratio, reading), asker), number)
            self.assertEqual(readings.best_reading(2, ratio, asker), reading)
            told = sums.least_sum(9, best.musts_of(2, ratio), best.aim_of(asker))
            self.assertEqual(told[1], number)
            self.assertTrue(sums.shows(9, best.musts_of(2, ratio), best.aim_of(asker), told))
            told = steady.steady(2, ratio, loss)
            self.assertTrue(steady.is_steady(2, ratio, loss, told))
            self.assertEqual(best.least_cost(2, ratio, (told[2], loss)), told[0])
            made = schemes.read_by(ladders.ladder(2, ratio), told[1])
            self.assertEqual(steady.worst(made, loss)[0], told[0])
            self.assertEqual(makes.as_good(ladders.ladder(2, ratio), made) in ("both", "one"), True)
            self.assertTrue(makes.is_made(ladders.ladder(2, ratio), made,
                                          makes.made_of(ladders.ladder(2, ratio), made)))
            self.assertTrue(makes.is_made(made, ladders.ladder(2, ratio),
                                          makes.made_of(made, ladders.ladder(2, ratio))))

    def test_draws_and_samplers(self):
        row = ladders.ladder(9, GREAT)[4]
        told = chances.draw(list(enumerate(row)))
        self.assertEqual(told, tuple(enumerate(row)))
        far = chances.mapped(told, {k: abs(k - 4) for k in range(10)})
        self.assertEqual(chances.chance_of(far, 4), numbers.total([row[0], row[8]]))
        self.assertEqual(chances.mean(chances.mixed([(GREAT, far), (numbers.minus((1, 1), GREAT), far)])),
                         chances.mean(far))
        self.assertEqual(chances.ratio_of(told, told), ((1, 1), 0))
        self.assertEqual(len(chances.both(told, far)), 60)
        table = samplers.sampler(chances.draw(list(enumerate(releases.outputs(SCHEMA, COIN, PEOPLE)))))
        self.assertEqual(samplers.drawn(table, (1, 1, 0, 1)), (1, 4))
        self.assertEqual([a for _, a in samplers.chances_within(table, 60)],
                         [pair(F(1, 3) * (1 - F(1, 4 ** 60))), pair(F(2, 3) * (1 - F(1, 4 ** 60)))])

    def test_questions_releases_and_trees(self):
        for ratio in LONG_RATIOS:
            release = releases.ladder_release(SCHEMA, ("part", OLD, 2), 3, ratio)
            self.assertEqual(release[1:3], questions.range_of(SCHEMA, ("part", OLD, 2), 3))
            factor, one, other, output = releases.release_factor(SCHEMA, release, 3)
            self.assertTrue(tables.are_neighbours(SCHEMA, one, other))
            self.assertIn(other, tables.neighbours(SCHEMA, one))
            self.assertEqual(numbers.times(factor, releases.chance(SCHEMA, release, other, output)),
                             releases.chance(SCHEMA, release, one, output))
            told = stretches.stretch(SCHEMA, release[0], 3)
            self.assertTrue(stretches.is_stretch(SCHEMA, release[0], 3, told))
            self.assertEqual(factor, numbers.power(numbers.by((1, 1), ratio), told[0]))
            read = releases.read_release(SCHEMA, release, ladders.ladder(9, ratio))
            self.assertFalse(numbers.below(factor, releases.release_factor(SCHEMA, read, 3)[0]))
            tree = trees.row((release, read))
            steep, one, other, output = trees.tree_factor(SCHEMA, tree, 3)
            self.assertFalse(numbers.below(trees.way_bound(SCHEMA, tree, 3), steep))
            at, beside = (dict(trees.tree_chances(SCHEMA, tree, table)) for table in (one, other))
            self.assertEqual(numbers.times(steep, beside[output]), at[output])
            history = list(zip((release, read), output))
            self.assertEqual(ledgers.moved_by(SCHEMA, one, other, history), steep)
            self.assertTrue(texts.show_number(steep))
            self.assertTrue(texts.show_tree(tree))

    def test_standings(self):
        for question in (OLD, ("different", ALL, AGE), ("kept", ("greatest", SICK, AGE, 0, 9), 1, 5)):
            answers = set()
            for standing in folds.standings(SCHEMA, question, 2):
                for people in folds.alike(SCHEMA, question):
                    steps = {folds.stepped(SCHEMA, question, standing, person) for person in people}
                    self.assertEqual(len(steps), 1)
                    self.assertLessEqual(steps, set(folds.standings(SCHEMA, question, 3)))
                    answers |= {folds.told_by(SCHEMA, question, step) for step in steps}
            self.assertEqual((min(answers), max(answers)), questions.range_of(SCHEMA, question, 3))
            met = stretches.pairs(SCHEMA, question, 3)
            self.assertEqual({a for row in met for a in row}, answers)
            self.assertEqual(max(b - a for a, b in met), stretches.row_stretch(SCHEMA, (question,), 3))

    def test_ledgers_and_texts(self):
        release = releases.ladder_release(SCHEMA, COUNT, 2, LONG)
        factor = releases.release_factor(SCHEMA, release, 2)[0]
        ledger = ledgers.Ledger(SCHEMA, PEOPLE, numbers.power(factor, 30))
        for k in range(30):
            row = releases.outputs(SCHEMA, release, PEOPLE)
            self.assertEqual(ledger.ask(release, numbers.total(row[:k % 3])), k % 3)
        self.assertEqual((ledger.paid, ledger.left), (numbers.power(factor, 30), (1, 1)))
        moved = ledgers.moved_by(SCHEMA, PEOPLE, ((1, 0), (5, 0)), ledger.history())
        self.assertFalse(numbers.below(ledger.paid, moved))
        console = consoles.Console()
        console.keep_schema("s", readers.read_schema(texts.show_schema(ledger.schema)))
        console.keep_ledger("l", "s", readers.read_table(SCHEMA, texts.show_table(PEOPLE)), ledger.paid)
        self.assertEqual(console.order("left l"), texts.show_number(ledger.paid))
        self.assertEqual(readers.read_tree(SCHEMA, texts.show_tree(MIXED)), MIXED)
        self.assertEqual(readers.read_asker(texts.show_asker((TOLD[0], TOLD[::-1][:1] * 2))),
                         (TOLD[0], TOLD[::-1][:1] * 2))


class ListsTest(unittest.TestCase):
    def kept_ledger(self):
        ledger = ledgers.Ledger(SCHEMA, PEOPLE, (9, 1))
        ledger.ask(COIN, (1, 2))
        return ledger

    def spoilt(self, told):
        """Changes a list, and all lists in it, as a caller may."""
        for part in told:
            if isinstance(part, list):
                self.spoilt(part)
        told.reverse()
        told.append("spoilt")
        del told[0]

    def test_each_list_is_new_at_every_depth(self):
        ledger, console = self.kept_ledger(), consoles.Console()
        console.keep_schema("s", SCHEMA)
        console.keep_ledger("l", "s", PEOPLE, (9, 1))
        kept = console.ledger("l")
        sampler = samplers.sampler(((0, (1, 3)), (1, (2, 3))))
        calls = [
            lambda: samplers.chances_within(sampler, 3), lambda: tables.persons(SCHEMA),
            lambda: tables.tables_of(SCHEMA, 2),
            lambda: tables.tables_of(SCHEMA, 0), lambda: tables.neighbours(SCHEMA, PEOPLE),
            lambda: folds.standings(SCHEMA, OLD, 2), lambda: folds.standings(SCHEMA, ("different", ALL, AGE), 2),
            lambda: folds.alike(SCHEMA, OLD), lambda: stretches.pairs(SCHEMA, OLD, 2), lambda: trees.ways(MIXED),
            ledger.history, kept.history, console.names, lambda: console.ledger("l").history(),
        ]
        for call in calls:
            expected = copy.deepcopy(call())
            self.assertIs(type(expected), list)
            self.spoilt(call())
            self.assertEqual(call(), expected)
        self.assertEqual((ledger.paid, ledger.left), ((2, 1), (9, 2)))

    def test_what_is_handed_in_stays_as_it_was(self):
        some = [(1, 2), (-3, 1), (1, 3)]
        rows = [(1, (1, 4)), (0, (1, 2)), (1, (1, 4)), (7, (0, 1))]
        draws = [((1, 2), ((0, (1, 1)),)), ((1, 2), ((1, (1, 1)),))]
        table = {0: 3, 1: 3, 5: 7}
        history = [(COIN, 0), (COIN, 1)]
        for function, arguments in [(numbers.least, (some,)), (numbers.greatest, (some,)), (numbers.total, (some,)),
                                    (chances.draw, (rows,)), (chances.mixed, (draws,)),
                                    (chances.mapped, (((0, (1, 2)), (1, (1, 2))), table)),
                                    (ledgers.moved_by, (SCHEMA, PEOPLE, ((1, 0), (5, 0)), history))]:
            before = copy.deepcopy(arguments)
            told = function(*arguments)
            self.assertEqual(arguments, before)
            self.assertEqual(function(*arguments), told)

    def test_what_is_told_hangs_on_no_list_that_was_handed_in(self):
        rows = [(1, (1, 4)), (0, (3, 4))]
        told = chances.draw(rows)
        rows.clear()
        self.assertEqual(told, ((0, (3, 4)), (1, (1, 4))))


if __name__ == "__main__":
    unittest.main()
