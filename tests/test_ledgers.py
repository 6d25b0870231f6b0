import random
import unittest

from exact import F, pair, random_scheme
from raising import Raising
from test_releases import COIN, NO_RELEASES, SURE
from test_tables import DEEP, NO_SCHEMAS, NO_TABLES
from walking import (
    AGE, ALL, COUNT, LONE, OLD, PAIR, QUAD, QUESTIONS, SCHEMA, TRIO, are_moved, drawn_questions, kept_row, least_factor,
    random_release, tables,
)

from oneservesall.errors import (
    DividedByZero, InvalidLimit, InvalidLot, InvalidOutputs, InvalidPair, InvalidRelease, InvalidSchema, InvalidTable,
    Overdrawn,
)
from oneservesall.ledgers import Ledger, moved_by
from oneservesall.releases import ladder_release

HALF = (1, 2)
PEOPLE = ((1, 1), (5, 0))
PARTING = (COUNT, 0, 1, (((0, 1), (1, 1)), ((1, 2), (1, 2))))
FREE = (COUNT, 0, 1, (((1, 3), (2, 3)), ((1, 3), (2, 3))))
THREE = (COUNT, 0, 1, (((0, 1), (1, 3), (2, 3)), ((0, 1), (2, 3), (1, 3))))
NO_NUMBERS = [7, "1", (), (1,), (1, 2, 3), (2, 4), (1, 0), (1, -2), ("1", "2"), DEEP]


def factor_of(schema, release, n):
    """The least factor of a release by a walk over all tables, a fraction or None."""
    return least_factor(schema, {table: kept_row(schema, release, table) for table in tables(schema, n)}, n)


def output_of(schema, release, table, lot):
    """The output that a lot comes to: how many sums of chances it has reached."""
    row = [F(*x) for x in kept_row(schema, release, table)]
    return next(k for k in range(len(row)) if sum(row[:k + 1]) > lot)


def lots_of(rng, row):
    """Lots at the sums of chances, next to them on both sides, between them, 0 and just below 1."""
    sums = [sum((F(*x) for x in row[:k]), F(0)) for k in range(len(row) + 1)]
    tiny = F(1, 10 ** 8)
    found = [F(0), 1 - tiny, 1 - F(1, 10 ** 40), F(rng.randint(0, 99), 100)]
    found.extend(x + step for x in sums for step in (-tiny, F(0), tiny))
    found.extend((x + y) / 2 for x, y in zip(sums, sums[1:]))
    return [x for x in found if 0 <= x < 1]


class LedgerTest(Raising, unittest.TestCase):
    def state(self, ledger):
        return ledger.schema, ledger.paid, ledger.left, ledger.history()

    def test_at_first(self):
        for table in (PEOPLE, PEOPLE[:1], PEOPLE * 2):
            for limit in ((1, 1), (3, 1), (7, 2), (10 ** 40, 1)):
                ledger = Ledger(SCHEMA, table, limit)
                self.assertEqual(self.state(ledger), (SCHEMA, (1, 1), limit, []))
                self.assertEqual(self.state(Ledger(limit=limit, table=table, schema=SCHEMA)),
                                 (SCHEMA, (1, 1), limit, []))

    def test_not_compared(self):
        ledger = Ledger(SCHEMA, PEOPLE, (3, 1))
        self.assertFalse(ledger == Ledger(SCHEMA, PEOPLE, (3, 1)))
        self.assertFalse(ledger == ledger.twin())
        self.assertTrue(ledger == ledger)

    def test_beside_a_plain_reckoning(self):
        rng = random.Random(241)
        asked = overdrawn = without = 0
        for schema, n in [(SCHEMA, 1), (SCHEMA, 2), (PAIR, 4), (TRIO, 3), (QUAD, 2), (LONE, 3)]:
            questions = QUESTIONS if schema == SCHEMA else drawn_questions(rng, schema, 8)
            for _ in range(8):
                table = rng.choice(tables(schema, n))
                limit, paid, history = F(rng.randint(10, 60), rng.randint(1, 10)), F(1), []
                ledger = Ledger(schema, table, pair(limit))
                for _ in range(14):
                    release = random_release(rng, schema, rng.choice(questions), rng.randint(2, 4), rng.random() < 0.4)
                    factor = factor_of(schema, release, n)
                    lot = rng.choice(lots_of(rng, kept_row(schema, release, table)))
                    if factor is None or paid * factor > limit:
                        value = None if factor is None else pair(factor)
                        with self.assertRaises(Overdrawn) as caught:
                            ledger.ask(release, pair(lot))
                        self.assertEqual(caught.exception.value, value)
                        without, overdrawn = without + (factor is None), overdrawn + (factor is not None)
                    else:
                        output = output_of(schema, release, table, lot)
                        told = ledger.ask(lot=pair(lot), release=release) if asked % 2 else ledger.ask(release,
                                                                                                       pair(lot))
                        self.assertEqual(told, output)
                        paid *= factor
                        history.append((release, output))
                        asked += 1
                    self.assertEqual(self.state(ledger), (schema, pair(paid), pair(limit / paid), history))
                    self.assertLessEqual(F(*ledger.paid), limit)
        self.assertEqual((asked > 60, overdrawn > 20, without > 10), (True, True, True), (asked, overdrawn, without))

    def test_lots(self):
        rng = random.Random(242)
        for release in [COIN, FREE, THREE, (COUNT, 0, 0, SURE), (OLD, 0, 3, random_scheme(rng, 4, 5))]:
            for table in [((1, 1),), ((1, 0),), PEOPLE]:
                row = kept_row(SCHEMA, release, table)
                for lot in lots_of(rng, row):
                    ledger = Ledger(SCHEMA, table, (10 ** 6, 1))
                    self.assertEqual(ledger.ask(release, pair(lot)), output_of(SCHEMA, release, table, lot))
        told = [Ledger(SCHEMA, ((1, 1),), (9, 1)).ask(THREE, lot) for lot in ((0, 1), (2, 3), (99, 100),
                                                                              (665, 1000 - 1))]
        self.assertEqual(told, [1, 2, 2, 1])

    def test_never_overdrawn(self):
        """Just the product of what is asked is a limit that suffices, and a little below it does not."""
        for many in (1, 2, 5):
            for above, suffices in ((F(0), True), (F(1, 10 ** 7), True), (F(-1, 10 ** 7), False)):
                ledger = Ledger(SCHEMA, PEOPLE, pair(2 ** many + above))
                for _ in range(many - 1):
                    ledger.ask(COIN, HALF)
                before = self.state(ledger)
                if suffices:
                    ledger.ask(COIN, HALF)
                    self.assertEqual((ledger.paid, ledger.left), ((2 ** many, 1), pair(1 + above / 2 ** many)))
                else:
                    self.raises(Overdrawn, (2, 1), ledger.ask, COIN, HALF)
                    self.assertEqual(self.state(ledger), before)
        ledger = Ledger(SCHEMA, PEOPLE, (2, 1))
        ledger.ask(COIN, HALF)
        self.raises(Overdrawn, (2, 1), ledger.ask, COIN, HALF)
        # What costs 1 can be asked for ever, even where nothing more is left.
        for _ in range(40):
            ledger.ask(FREE, HALF)
        self.assertEqual((ledger.paid, ledger.left, len(ledger.history())), ((2, 1), (1, 1), 41))
        self.raises(Overdrawn, None, ledger.ask, PARTING, HALF)
        self.raises(Overdrawn, None, Ledger(SCHEMA, PEOPLE, (10 ** 30, 1)).ask, PARTING, HALF)

    def test_pays_for_as_many_persons_as_the_table_has(self):
        steep = (COUNT, 0, 2, (((1, 2), (1, 2)), ((1, 2), (1, 2)), ((1, 8), (7, 8))))
        for table, paid in [(PEOPLE[:1], (1, 1)), (PEOPLE, (4, 1)), (((1, 0),) * 4, (4, 1))]:
            ledger = Ledger(SCHEMA, table, (9, 1))
            ledger.ask(steep, HALF)
            self.assertEqual(ledger.paid, paid)
        wide = ladder_release(SCHEMA, ("greatest", ALL, AGE, 1, 5), 2, HALF)
        ledger = Ledger(SCHEMA, PEOPLE, (16, 1))
        ledger.ask(wide, (0, 1))
        self.assertEqual((ledger.paid, ledger.left), ((16, 1), (1, 1)))

    def test_odds_move_by_no_more_than_was_paid(self):
        rng = random.Random(243)
        for n in (1, 2):
            for _ in range(6):
                table = rng.choice(tables(SCHEMA, n))
                ledger = Ledger(SCHEMA, table, (10 ** 9, 1))
                for _ in range(4):
                    release = random_release(rng, SCHEMA, rng.choice(QUESTIONS), 3)
                    ledger.ask(release, pair(F(rng.randint(0, 99), 100)))
                for other in tables(SCHEMA, n):
                    if are_moved(table, other):
                        for one, beside in ((table, other), (other, table)):
                            self.assertLessEqual(F(*moved_by(SCHEMA, one, beside, ledger.history())), F(*ledger.paid))

    def test_each_history_is_new(self):
        ledger = Ledger(SCHEMA, PEOPLE, (9, 1))
        ledger.history().append((COIN, 1))
        self.assertEqual(ledger.history(), [])
        ledger.ask(COIN, HALF)
        ledger.history().clear()
        self.assertEqual(ledger.history(), [(COIN, 0 if kept_row(SCHEMA, COIN, PEOPLE)[0] == (2, 3) else 1)])
        self.assertIs(type(ledger.history()), list)

    def test_twins_go_their_own_way(self):
        ledger = Ledger(SCHEMA, PEOPLE, (9, 1))
        ledger.ask(COIN, (0, 1))
        twin = ledger.twin()
        self.assertIsInstance(twin, Ledger)
        self.assertEqual(self.state(twin), self.state(ledger))
        before = self.state(ledger)
        twin.ask(COIN, (99, 100))
        self.assertEqual(self.state(ledger), before)
        self.assertEqual((twin.paid, twin.left), ((4, 1), (9, 4)))
        ledger.ask(FREE, HALF)
        self.assertEqual([told for _, told in ledger.history()], [0, 1])
        self.assertEqual([told for _, told in twin.history()], [0, 1])
        self.assertEqual([release for release, _ in twin.history()], [COIN, COIN])
        last = twin.twin()
        twin.ask(COIN, HALF)
        self.assertEqual((last.paid, twin.paid, ledger.paid), ((4, 1), (8, 1), (2, 1)))
        self.raises(Overdrawn, (2, 1), twin.ask, COIN, HALF)

    def test_wrong_beginnings(self):
        for wrong in NO_SCHEMAS:
            self.raises_lightly(InvalidSchema, wrong, Ledger, wrong, (7,), 7)
        for wrong in NO_TABLES:
            self.raises_lightly(InvalidTable, wrong, Ledger, SCHEMA, wrong, 7)
        self.raises(InvalidTable, (), Ledger, SCHEMA, (), (3, 1))
        self.raises(InvalidTable, (), Ledger, SCHEMA, (), 7)
        for wrong in NO_NUMBERS + [(0, 1), (1, 2), (-3, 1), (99999999, 100000000)]:
            self.raises_lightly(InvalidLimit, wrong, Ledger, SCHEMA, PEOPLE, wrong)

    def test_wrong_askings(self):
        ledger = Ledger(SCHEMA, PEOPLE, (3, 2))
        before = self.state(ledger)
        for wrong in NO_RELEASES:
            self.raises_lightly(InvalidRelease, wrong, ledger.ask, wrong, (7,))
        for wrong in NO_NUMBERS + [(1, 1), (-1, 2), (3, 2), (-1, 10 ** 9)]:
            for release in (FREE, COIN, PARTING):
                self.raises_lightly(InvalidLot, wrong, ledger.ask, release, wrong)
        self.raises(Overdrawn, (2, 1), ledger.ask, COIN, HALF)
        self.raises(Overdrawn, None, ledger.ask, PARTING, HALF)
        self.raises(InvalidRelease, (("count", ("is", ("value", "a"), AGE)),) + COIN[1:], ledger.ask,
                    (("count", ("is", ("value", "a"), AGE)),) + COIN[1:], HALF)
        self.assertEqual(self.state(ledger), before)


class MovedByTest(Raising, unittest.TestCase):
    def test_products_of_chances(self):
        rng = random.Random(244)
        for schema, n in [(SCHEMA, 1), (SCHEMA, 2), (TRIO, 3), (QUAD, 2)]:
            questions = QUESTIONS if schema == SCHEMA else drawn_questions(rng, schema, 8)
            neighbours = [(one, other) for one in tables(schema, n) for other in tables(schema, n) if are_moved(one,
                                                                                                                other)]
            for _ in range(40):
                one, other = rng.choice(neighbours)
                history = []
                for _ in range(rng.randint(0, 4)):
                    release = random_release(rng, schema, rng.choice(questions), rng.randint(1, 4), rng.random() < 0.3)
                    history.append((release, rng.randrange(len(release[3][0]))))
                top, bottom = F(1), F(1)
                for release, output in history:
                    top *= F(*kept_row(schema, release, one)[output])
                    bottom *= F(*kept_row(schema, release, other)[output])
                if bottom:
                    self.assertEqual(moved_by(schema, one, other, history), pair(top / bottom))
                    self.assertEqual(moved_by(history=history, other=other, one=one, schema=schema), pair(top / bottom))
                else:
                    self.raises(DividedByZero, history, moved_by, schema, one, other, history)

    def test_edges(self):
        sick, well = ((1, 1),), ((1, 0),)
        self.assertEqual(moved_by(SCHEMA, sick, well, []), (1, 1))
        self.assertEqual(moved_by(SCHEMA, sick, well, [(COIN, 1)] * 30), (2 ** 30, 1))
        self.assertEqual(moved_by(SCHEMA, sick, well, [(COIN, 0)] * 30), (1, 2 ** 30))
        self.assertEqual(moved_by(SCHEMA, well, sick, [(PARTING, 0), (COIN, 0)]), (0, 1))
        for history in ([(PARTING, 0)], [(COIN, 0), (PARTING, 0), (COIN, 1)], [(THREE, 0)]):
            self.raises(DividedByZero, history, moved_by, SCHEMA, sick, well, history)

    def test_wrong_inputs(self):
        sick, well = ((1, 1),), ((1, 0),)
        wrong_history = [(7, 0)]
        for wrong in NO_SCHEMAS:
            self.raises_lightly(InvalidSchema, wrong, moved_by, wrong, (7,), (7,), wrong_history)
        for wrong in NO_TABLES:
            self.raises_lightly(InvalidTable, wrong, moved_by, SCHEMA, wrong, (7,), wrong_history)
            self.raises_lightly(InvalidTable, wrong, moved_by, SCHEMA, sick, wrong, wrong_history)
        for one, other in [(sick, sick), ((), ()), (sick, ()), (sick, sick + well), (PEOPLE, PEOPLE[::-1]),
                           (PEOPLE, ((1, 0), (5, 1)))]:
            self.raises(InvalidPair, (one, other), moved_by, SCHEMA, one, other, wrong_history)
        for wrong in NO_RELEASES:
            self.raises_lightly(InvalidRelease, wrong, moved_by, SCHEMA, sick, well, [(wrong, 9)])
            self.raises_lightly(InvalidRelease, wrong, moved_by, SCHEMA, sick, well, [(COIN, 9), (wrong, 9), (7, 9)])
        for wrong in (-1, 2, 10 ** 20):
            for history in ([(COIN, wrong)], [(COIN, 0), (PARTING, wrong)], [(PARTING, 0), (COIN, wrong), (COIN, 1)]):
                self.raises(InvalidOutputs, history, moved_by, SCHEMA, sick, well, history)


if __name__ == "__main__":
    unittest.main()
