import copy
import random
import unittest

from exact import F, pair
from raising import Raising
from shown import number_text, part_text, release_text, schema_text, table_text
from test_ledgers import FREE, HALF, NO_NUMBERS, PARTING, PEOPLE, factor_of, output_of
from test_releases import COIN
from test_tables import NO_SCHEMAS, NO_TABLES
from walking import ALL, LONE, OLD, PAIR, QUESTIONS, SCHEMA, answers_at, moved, random_release

from oneservesall.consoles import Console
from oneservesall.errors import (
    InvalidLimit, InvalidLot, InvalidName, InvalidNumber, InvalidSchema, InvalidTable, NothingToUndo, Overdrawn,
    TellError, UnknownName, Unorderly, Unreadable, WrongKind,
)
from oneservesall.ledgers import Ledger

COLUMNS = ("age", "a", "b")
NO_NAMES = ["", " ", "A", "a1", "a b", " a", "a ", "abcdefghi", "a\n", "-", "`", "{", "_"]


def coin_text(release=COIN):
    return "\n" + release_text(release)


def filled():
    """A console with two schemas and two ledgers, one of which has been asked."""
    console = Console()
    console.keep_schema("clinic", SCHEMA)
    console.keep_schema("pair", PAIR)
    console.keep_ledger("one", "clinic", PEOPLE, (9, 2))
    console.keep_ledger("two", "pair", ((3,),), (5, 1))
    console.order("ask one 1/2" + coin_text())
    return console


NAMES = [("clinic", "schema"), ("one", "ledger"), ("pair", "schema"), ("two", "ledger")]


def spread(schema, column):
    """How far apart the values of a column are, as a console tells it."""
    told = dict(schema)
    return str(max(told[column]) - min(told[column])) if column in told else ("Unreadable", 1)


def state(console):
    """All that a console tells of what it has; of a schema how far apart the values of columns are."""
    told = []
    for name, kind in console.names():
        if kind == "ledger":
            ledger = console.ledger(name)
            told.append((name, ledger.schema, ledger.paid, ledger.left, ledger.history()))
        else:
            texts = [f"stretch {name} 1 (sum (all) (value {column}) -99 99)" for column in COLUMNS]
            told.append((name, [outcome(console.order, text) for text in texts]))
    return told


class Plain:
    """A model: a dictionary of names, and a copy of it ahead of each change."""

    def __init__(self):
        self.things = {}
        self.behind = []

    def put(self, name, thing):
        self.behind.append(copy.deepcopy(self.things))
        self.things[name] = thing

    def drop(self, name):
        self.thing(name)
        self.behind.append(copy.deepcopy(self.things))
        del self.things[name]

    def thing(self, name, kind=None):
        if name not in self.things:
            raise UnknownName(name)
        if kind is not None and self.things[name][0] != kind:
            raise WrongKind(name)
        return self.things[name]

    def keep_ledger(self, name, schema_name, table, limit):
        schema = self.thing(schema_name, "schema")[1]
        if any(len(person) != len(schema) for person in table):
            raise InvalidTable(table)
        if not table:
            raise InvalidTable(())
        if limit < 1:
            raise InvalidLimit(pair(limit))
        self.put(name, ("ledger", schema, table, limit, F(1), []))

    def ask(self, name, release, lot):
        _, schema, table, limit, paid, history = self.thing(name, "ledger")
        if schema == PAIR and release[0] != ("count", ALL):
            raise Unreadable(1)
        if not 0 <= lot < 1:
            raise InvalidLot(pair(lot))
        factor = factor_of(schema, release, len(table))
        if factor is None or factor * paid > limit:
            raise Overdrawn(None if factor is None else pair(factor))
        output = output_of(schema, release, table, lot)
        self.put(name, ("ledger", schema, table, limit, paid * factor, history + [(release, output)]))
        return output

    def undo(self):
        if not self.behind:
            raise NothingToUndo(0)
        self.things = self.behind.pop()

    def state(self):
        told = []
        for name, thing in sorted(self.things.items()):
            if thing[0] == "ledger":
                _, schema, _, limit, paid, history = thing
                told.append((name, schema, pair(paid), pair(limit / paid), history))
            else:
                told.append((name, [spread(thing[1], column) for column in COLUMNS]))
        return told


def outcome(function, *arguments):
    """What a call returns, or its error and that one's value."""
    try:
        return function(*arguments)
    except TellError as error:
        return type(error).__name__, error.value


class CallsTest(Raising, unittest.TestCase):
    def test_at_first(self):
        console = Console()
        self.assertEqual(console.names(), [])
        self.assertEqual(console.order("names"), "none")
        self.raises(NothingToUndo, 0, console.undo)
        self.raises(NothingToUndo, 0, console.order, "undo")

    def test_names_and_kinds(self):
        console = filled()
        self.assertEqual(console.names(), NAMES)
        self.assertIs(type(console.names()), list)
        console.names().clear()
        self.assertEqual(console.names(), NAMES)
        self.assertEqual(console.order("names"), "clinic schema\none ledger\npair schema\ntwo ledger")

    def test_what_is_returned(self):
        console = Console()
        self.assertIsNone(console.keep_schema(name="clinic", schema=SCHEMA))
        self.assertIsNone(console.keep_ledger(name="one", schema_name="clinic", table=PEOPLE, limit=(9, 2)))
        self.assertIsInstance(console.ledger(name="one"), Ledger)
        self.assertIsNone(console.drop(name="clinic"))
        self.assertIsNone(console.undo())
        self.assertEqual(console.order(text="left one"), "9/2")

    def test_ledgers_are_told_as_twins(self):
        console = filled()
        ledger = console.ledger("one")
        self.assertEqual((ledger.schema, ledger.paid, ledger.left, len(ledger.history())), (SCHEMA, (2, 1), (9, 4), 1))
        ledger.ask(COIN, HALF)
        self.assertEqual(console.ledger("one").paid, (2, 1))
        self.assertEqual(console.order("paid one"), "2")
        console.order("ask one 0" + coin_text())
        self.assertEqual((ledger.paid, len(ledger.history())), ((4, 1), 2))
        self.assertEqual(console.order("history one"), "1 0" if ledger.history()[0][1] else "0 0")

    def test_a_new_one_takes_the_place_of_an_elder_one(self):
        console = filled()
        console.keep_schema("one", LONE)
        self.assertEqual(console.names(), [("clinic", "schema"), ("one", "schema"), ("pair", "schema"),
                                           ("two", "ledger")])
        self.raises(WrongKind, "one", console.ledger, "one")
        console.keep_ledger("clinic", "clinic", PEOPLE, (3, 1))
        self.assertEqual(console.names()[0], ("clinic", "ledger"))
        self.assertEqual(console.ledger("clinic").schema, SCHEMA)
        self.raises(WrongKind, "clinic", console.keep_ledger, "x", "clinic", PEOPLE, (3, 1))
        console.keep_ledger("two", "one", ((4, 0),), (7, 1))
        self.assertEqual((console.ledger("two").schema, console.ledger("two").left), (LONE, (7, 1)))
        for _ in range(3):
            console.undo()
        self.assertEqual(state(console), state(filled()))

    def test_a_ledger_goes_on_with_its_schema(self):
        for change in (lambda console: console.drop("clinic"), lambda console: console.keep_schema("clinic", PAIR),
                       lambda console: console.keep_ledger("clinic", "pair", ((3,),), (2, 1))):
            console = filled()
            change(console)
            self.assertEqual(console.ledger("one").schema, SCHEMA)
            self.assertIn(console.order("ask one 1/3" + coin_text()), ("0", "1"))
            self.assertEqual(console.order("left one"), "9/8")
            self.assertEqual(console.order("paid one"), "4")

    def test_undo_of_each_kind(self):
        for change in (lambda console: console.keep_schema("new", LONE),
                       lambda console: console.keep_schema("one", LONE),
                       lambda console: console.keep_schema("pair", LONE),
                       lambda console: console.keep_ledger("new", "pair", ((3,),), (9, 1)),
                       lambda console: console.keep_ledger("one", "pair", ((3,),), (9, 1)),
                       lambda console: console.keep_ledger("pair", "pair", ((3,),), (9, 1)),
                       lambda console: console.drop("one"), lambda console: console.drop("clinic"),
                       lambda console: console.order("ask one 1/2" + coin_text()),
                       lambda console: console.order("ask one 0" + coin_text(FREE)),
                       lambda console: console.order("drop two"),
                       lambda console: console.order("schema new\n" + schema_text(LONE)),
                       lambda console: console.order("ledger new clinic 3\n1 1")):
            console = filled()
            before = state(console)
            change(console)
            self.assertNotEqual(state(console), before)
            console.undo()
            self.assertEqual(state(console), before)
            change(console)
            console.order("undo")
            self.assertEqual(state(console), before)

    def test_undo_to_the_beginning_and_once_more(self):
        console = filled()
        counts = []
        for _ in range(5):
            counts.append(len(console.names()))
            console.undo()
        self.assertEqual((counts, console.names()), ([4, 4, 3, 2, 1], []))
        for _ in range(2):
            self.raises(NothingToUndo, 0, console.undo)
        console.keep_schema("a", LONE)
        console.undo()
        self.raises(NothingToUndo, 0, console.order, "undo")

    def test_undo_behind_calls_that_raised_or_changed_nothing(self):
        console = filled()
        before = state(console)
        console.drop("two")
        for wrong in [("drop", "two"), ("keep_schema", "A", SCHEMA), ("keep_schema", "a", ()), ("ledger", "clinic"),
                      ("keep_ledger", "new", "none", PEOPLE, HALF), ("keep_ledger", "new", "clinic", PEOPLE, HALF),
                      ("order", "ask one 1/2" + coin_text(PARTING)), ("order", "ask one 1" + coin_text()),
                      ("order", "schema a\na : 2 1"), ("order", "drop two"), ("order", "nothing")]:
            with self.assertRaises(TellError):
                getattr(console, wrong[0])(*wrong[1:])
        for text in ("names", "left one", "paid one", "history one", "stretch pair 1 (count (all))",
                     "factor clinic 1" + coin_text()):
            console.order(text)
        console.names()
        console.ledger("one").ask(COIN, HALF)
        console.undo()
        self.assertEqual(state(console), before)

    def test_wrong_inputs(self):
        console = filled()
        before = state(console)
        for wrong in NO_NAMES + [7, ("a",)]:
            self.raises(InvalidName, wrong, console.keep_schema, wrong, SCHEMA)
            self.raises(InvalidName, wrong, console.keep_schema, wrong, ())
            self.raises(InvalidName, wrong, console.keep_ledger, wrong, "nobody", (), 7)
            self.raises(UnknownName, wrong, console.drop, wrong)
            self.raises(UnknownName, wrong, console.ledger, wrong)
            self.raises(UnknownName, wrong, console.keep_ledger, "new", wrong, (7,), 7)
        for wrong in NO_SCHEMAS:
            self.raises_lightly(InvalidSchema, wrong, console.keep_schema, "new", wrong)
        self.raises(UnknownName, "new", console.drop, "new")
        self.raises(UnknownName, "new", console.ledger, "new")
        self.raises(UnknownName, "new", console.keep_ledger, "new", "new", (7,), 7)
        self.raises(WrongKind, "one", console.keep_ledger, "new", "one", (7,), 7)
        for name in ("clinic", "pair"):
            self.raises(WrongKind, name, console.ledger, name)
        for wrong in NO_TABLES:
            self.raises_lightly(InvalidTable, wrong, console.keep_ledger, "new", "clinic", wrong, 7)
        self.raises(InvalidTable, PEOPLE, console.keep_ledger, "new", "pair", PEOPLE, 7)
        self.raises(InvalidTable, (), console.keep_ledger, "new", "clinic", (), 7)
        for wrong in NO_NUMBERS + [(1, 2), (0, 1)]:
            self.raises_lightly(InvalidLimit, wrong, console.keep_ledger, "one", "clinic", PEOPLE, wrong)
        self.assertEqual(state(console), before)
        for _ in range(5):
            console.undo()
        self.raises(NothingToUndo, 0, console.undo)


class OrdersTest(Raising, unittest.TestCase):
    def test_each_order(self):
        console = Console()
        for text, answer in [
                ("names", "none"), ("schema clinic\n" + schema_text(SCHEMA), "done"), ("names", "clinic schema"),
                ("ledger one clinic 9/2\n1 1\n5 0", "done"), ("history one", "none"), ("left one", "9/2"),
                ("paid one", "1"),
                ("ask one 1/2" + coin_text(), "1"), ("ask one 0" + coin_text(), "0"), ("history one", "1 0"),
                ("left one", "9/8"), ("paid one", "4"), ("stretch clinic 3 " + part_text(OLD), "6"),
                ("stretch clinic 1 (count (all))", "0"), ("factor clinic 2" + coin_text(), "2"),
                ("factor clinic 1" + coin_text(PARTING), "none"), ("factor clinic 4" + coin_text(FREE), "1"),
                ("names", "clinic schema\none ledger"), ("undo", "done"), ("history one", "1"), ("drop clinic", "done"),
                ("names", "one ledger"), ("undo", "done"), ("undo", "done"), ("undo", "done"), ("undo", "done"),
                ("names", "none")]:
            self.assertEqual(console.order(text), answer, text)

    def test_answers_of_texts_are_those_of_calls(self):
        console = filled()
        schema = (("age", (1, 5, 9)), ("none", (-3,)))
        console.order("schema other\n" + schema_text(schema))
        console.order("ledger mine other 123456789/7\n5 -3\n9 -3")
        self.assertEqual(console.ledger("mine").schema, schema)
        self.assertEqual(console.ledger("mine").left, (123456789, 7))
        told = (("sum", ALL, ("value", "none"), -9, 9), -6, -3, (((1, 2), (1, 2)),) * 4)
        self.assertEqual(console.order("ask mine 1/2\n" + release_text(told)), "1")
        self.assertEqual(console.ledger("mine").history(), [(told, 1)])

    def test_names_that_are_words_of_the_texts(self):
        console = Console()
        for name in ("names", "undo", "none", "schema", "ledger", "ask", "done", "drop", "end", "all"):
            self.assertEqual(console.order(f"schema {name}\n{name[:3]} : 1 2"), "done")
            self.assertEqual(console.order(f"ledger {name} {name} 4\n2"), "done")
            told = (("count", ("is", ("value", name[:3]), ("number", 2))), 0, 1, COIN[3])
            self.assertEqual(console.order(f"ask {name} 2/3\n{release_text(told)}"), "1")
            self.assertEqual(console.order(f"history {name}"), "1")
        self.assertEqual(len(console.names()), 10)

    def test_long_numbers(self):
        console = Console()
        console.order("schema pair\n" + schema_text(PAIR))
        console.order("ledger one pair 999999999\n3")
        rows = (((1, 99999989), (99999988, 99999989)), ((1, 99999971), (99999970, 99999971)))
        told = (("count", ("is", ("value", "a"), ("number", 3))), 0, 1, rows)
        factor = F(99999989, 99999971)
        for many in range(1, 41):
            console.order("ask one 1/2\n" + release_text(told))
            self.assertEqual(console.order("paid one"), number_text(pair(factor ** many)))
            self.assertEqual(console.order("left one"), number_text(pair(999999999 / factor ** many)))
        self.assertEqual(console.order("history one"), " ".join(["1"] * 40))
        self.assertEqual(console.order("factor pair 1\n" + release_text(told)), number_text(pair(factor)))
        # One digit more can be reckoned with, but not be read.
        longer = (told[0], 0, 1, (((1, 1000000007), (1000000006, 1000000007)),) * 2)
        self.raises(Unreadable, 3, console.order, "ask one 1/2\n" + release_text(longer))

    def test_unorderly_first_lines(self):
        console = filled()
        before = state(console)
        for line in ["", " ", "name", "names ", " names", "names x", "Names", "undo ", "undo 1", "undo undo", "drop",
                     "drop ", "drop one ", "drop  one", "drop one two", "drop One", "drop 1", "drop abcdefghi", "left",
                     "left ", "left 1", "left one two", "paid", "paid one 1", "paid ONE", "history", "history one ",
                     "history one two", "stretch", "stretch pair", "stretch pair 1", "stretch pair 1 ",
                     "stretch pair (count (all))", "stretch pair 01 (count (all))", "stretch pair 1/2 (count (all))",
                     "stretch  pair 1 (count (all))", "stretch pair  1 (count (all))", "stretch Pair 1 (count (all))",
                     "stretch 1 pair (count (all))", "stretch pair 1234567890 (count (all))", "keep one", "ledgers",
                     "done", "none", "undo\tx"]:
            self.raises(Unorderly, line, console.order, line)
            self.raises(Unorderly, line + "\nnames", console.order, line + "\nnames")
        for line in ["schema", "schema ", "schema New", "schema new ", "schema  new", "schema new new", "schema 1",
                     "schema abcdefghi", "ledger", "ledger new", "ledger new clinic", "ledger new clinic ",
                     "ledger new 3", "ledger new clinic 3 ", "ledger new clinic 3 3", "ledger new clinic 03",
                     "ledger new clinic 6/2", "ledger new clinic 3/1", "ledger new clinic -0", "ledger new clinic x",
                     "ledger new Clinic 3", "ledger New clinic 3", "ledger new clinic 1234567890",
                     "ledger new clinic 1/1234567890", "ask", "ask one", "ask one ", "ask one x", "ask one 2/4",
                     "ask one 1/2 ", "ask one 1/2 1/2", "ask one  1/2", "ask One 1/2", "ask 1/2 one", "factor",
                     "factor clinic", "factor clinic ", "factor clinic x", "factor clinic 1/2", "factor clinic 1 1",
                     "factor clinic 00", "factor 1 clinic", "tell one 1/2"]:
            for behind in ("\n" + release_text(COIN), "\na : 1", "\n", ""):
                self.raises(Unorderly, line + behind, console.order, line + behind)
        self.assertEqual(state(console), before)

    def test_lines_behind_the_first(self):
        console = filled()
        before = state(console)
        for line in ["names", "undo", "drop one", "left one", "paid one", "history one",
                     "stretch pair 1 (count (all))"]:
            for behind in ("\n", "\n\n", "\nx", "\n" + line):
                self.raises(Unorderly, line + behind, console.order, line + behind)
        for line in ["schema new", "ledger new clinic 3", "ask one 1/2", "factor clinic 1"]:
            self.raises(Unorderly, line, console.order, line)
            self.raises(Unreadable, 1, console.order, line + "\n")
            self.raises(Unreadable, 1, console.order, line + "\n\n")
        for text, n in [("schema new\na : 1\nb 2", 2), ("schema new\nb : 1\na : 1", 0), ("schema new\na : 1\n", 2),
                        ("ledger new clinic 3\n1 1\n1 x", 2), ("ledger new clinic 3\n1 2", 0),
                        ("ledger new clinic 3\nnone\n1 1", 2), ("ledger new pair 3\n1 1", 0),
                        ("ask one 1/2\n(count (all))\n0 0", 0), ("ask one 1/2\n(count (value a))", 1),
                        ("ask one 1/2\n(count (all))\n0", 2), ("ask one 1/2\n(count (all))\n0 0\n1\n?", 4),
                        ("ask two 1/2" + coin_text(), 1), ("factor pair 1" + coin_text(), 1),
                        ("factor clinic 1\n(count (all))\n0 0\n2", 0), ("stretch clinic 1 (count (value a))", 1),
                        ("stretch clinic 1 5", 1), ("stretch clinic 1  (count (all))", 1),
                        ("stretch clinic 1 (count (all)) ", 1), ("stretch clinic 1  ", 1),
                        ("stretch pair 1 " + part_text(OLD), 1)]:
            self.raises(Unreadable, n, console.order, text)
        self.assertEqual(state(console), before)

    def test_which_error(self):
        console = filled()
        before = state(console)
        for head, behind in [("drop {}", ""), ("left {}", ""), ("paid {}", ""), ("history {}", ""), ("ask {} 7", "\n?"),
                             ("stretch {} -1 ?", ""), ("factor {} -1", "\n?"), ("ledger a {} -1", "\n?")]:
            text = head.format("new") + behind
            self.raises(UnknownName, "new", console.order, text)
        for text, name in [("left clinic", "clinic"), ("paid pair", "pair"), ("history pair", "pair"),
                           ("ask pair 7\n?", "pair"), ("stretch one -1 ?", "one"), ("factor two -1\n?", "two"),
                           ("ledger a one -1\n?", "one")]:
            self.raises(WrongKind, name, console.order, text)
        for text, error, value in [
                ("stretch clinic -1 (count (all))", InvalidNumber, -1),
                ("stretch clinic 0 (count (all))", InvalidNumber, 0),
                ("stretch clinic 0 ?", Unreadable, 1), ("factor clinic 0" + coin_text(), InvalidNumber, 0),
                ("factor clinic -5" + coin_text(PARTING), InvalidNumber, -5), ("factor clinic 0\n?", Unreadable, 1),
                ("ledger new clinic 1/2\nnone", InvalidTable, ()), ("ledger new clinic 1/2\n1 1", InvalidLimit, (1, 2)),
                ("ledger new clinic 0\n1 1", InvalidLimit, (0, 1)), ("ledger new clinic -3\n1 1", InvalidLimit,
                                                                     (-3, 1)),
                ("ledger new clinic 1/2\n?", Unreadable, 1), ("ask one 1" + coin_text(), InvalidLot, (1, 1)),
                ("ask one -1/2" + coin_text(PARTING), InvalidLot, (-1, 2)), ("ask one 5\n?", Unreadable, 1),
                ("ask one 0" + coin_text(PARTING), Overdrawn, None),
                ("ask two 0\n" + release_text((("count", ("is", ("value", "a"), ("number", 3))), 0, 1,
                                              (((1, 8), (7, 8)), ((7, 8), (1, 8))))), Overdrawn, (7, 1))]:
            self.raises(error, value, console.order, text)
        self.assertEqual(state(console), before)

    def test_distances_and_factors_by_a_walk(self):
        rng = random.Random(271)
        console = filled()
        for n in (1, 2):
            for question in QUESTIONS:
                at = answers_at(SCHEMA, question, n)
                expected = max(abs(at[one] - at[other]) for one, other in moved(SCHEMA, n))
                self.assertEqual(console.order(f"stretch clinic {n} {part_text(question)}"), f"{expected}")
                release = random_release(rng, SCHEMA, question, 2, True)
                factor = factor_of(SCHEMA, release, n)
                expected = "none" if factor is None else number_text(pair(factor))
                self.assertEqual(console.order(f"factor clinic {n}\n{release_text(release)}"), expected)


class ModelTest(unittest.TestCase):
    """A console beside a plain model, with calls by methods and by texts."""

    NAMES = ["a", "b", "none", "names", "undo"]
    TABLES = [((1, 1),), ((1, 0), (9, 1)), ((3,), (-7,)), (), ((3,),)]

    def one(self, rng, console, plain):
        """(what the console said, what the model said) of one call that was drawn."""
        name, other = rng.choice(self.NAMES), rng.choice(self.NAMES[:3])
        kind = rng.choice(["schema"] + ["ledger"] * 5 + ["ask"] * 9 + ["drop"] + ["undo"] * 2)
        by_text = rng.random() < 0.5
        if kind == "schema" or (kind == "ledger" and name in "ab" and rng.random() < 0.9):
            schema = rng.choice((SCHEMA, PAIR))
            plain.put(name, ("schema", schema))
            if by_text:
                return console.order(f"schema {name}\n{schema_text(schema)}"), "done"
            return console.keep_schema(name, schema), None
        if kind == "ledger":
            table, limit = rng.choice(self.TABLES), F(rng.randint(1, 9), rng.randint(1, 3))
            expected = outcome(plain.keep_ledger, name, other, table, limit)
            if not by_text:
                return outcome(console.keep_ledger, name, other, table, pair(limit)), expected
            told = outcome(console.order, f"ledger {name} {other} {number_text(pair(limit))}\n{table_text(table)}")
            if expected is None:
                return told, "done"
            # By a text the table is read first, and is then none that is shown.
            return told, ("Unreadable", 0) if expected[0] == "InvalidTable" and table else expected
        if kind == "ask":
            return self.asked(rng, console, plain, name)
        function = plain.undo if kind == "undo" else plain.drop
        arguments = () if kind == "undo" else (name,)
        expected = outcome(function, *arguments)
        if by_text:
            return outcome(console.order, " ".join([kind, *arguments])), expected or "done"
        return outcome(getattr(console, kind), *arguments), expected

    def asked(self, rng, console, plain, name):
        question = ("count", ("is", ("number", 9), ("value", "age"))) if rng.random() < 0.7 else ("count", ALL)
        release = rng.choice((COIN, FREE, PARTING, (question, 0, 1, COIN[3])))
        lot = F(rng.randint(-1, 12), 12)
        expected = outcome(plain.ask, name, release, lot)
        if isinstance(expected, int):
            expected = f"{expected}"
        return outcome(console.order, f"ask {name} {number_text(pair(lot))}\n{release_text(release)}"), expected

    def told_right(self, console, plain):
        expected = plain.state()
        self.assertEqual(state(console), expected)
        lines = [f"{name} {plain.things[name][0]}" for name in sorted(plain.things)]
        self.assertEqual(console.order("names"), "\n".join(lines) or "none")
        for told in expected:
            if len(told) == 5:
                name, _, paid, left, history = told
                self.assertEqual(console.order(f"paid {name}"), number_text(paid))
                self.assertEqual(console.order(f"left {name}"), number_text(left))
                self.assertEqual(console.order(f"history {name}"), " ".join(str(r) for _, r in history) or "none")

    def test_many_calls(self):
        heard = []
        for seed in range(12):
            rng = random.Random(280 + seed)
            console, plain = Console(), Plain()
            for name, schema in (("a", SCHEMA), ("b", PAIR)):
                console.keep_schema(name, schema)
                plain.put(name, ("schema", schema))
            for _ in range(200):
                said, expected = self.one(rng, console, plain)
                self.assertEqual(said, expected)
                heard.append(said)
                self.told_right(console, plain)
            while plain.behind:
                console.undo()
                plain.undo()
                self.told_right(console, plain)
            self.assertEqual(outcome(console.undo), ("NothingToUndo", 0))
            self.assertEqual(console.names(), [])
        # Enough of all that can come of a call did come.
        for said, many in [("0", 9), ("1", 40), ("done", 100), (None, 100), (("Overdrawn", None), 10),
                           (("Overdrawn", (2, 1)), 10), (("NothingToUndo", 0), 2), (("Unreadable", 0), 10),
                           (("Unreadable", 1), 5)]:
            self.assertGreater(heard.count(said), many, said)
        for error in ("UnknownName", "WrongKind", "InvalidLot", "InvalidLimit", "InvalidTable"):
            self.assertGreater(sum(isinstance(said, tuple) and said[0] == error for said in heard), 5, error)


if __name__ == "__main__":
    unittest.main()
