import random
import unittest

from raising import Raising
from shown import (
    asker_text, number_text, part_text, random_askers, random_schema, random_table, release_text, schema_text,
    scheme_text, some_release, some_tree, table_text, tree_text,
)
from exact import random_scheme
from test_questions import NO_QUESTIONS, WIDE, denied, drawn_question, fitting, nested, summed
from test_releases import COIN, SURE
from test_trees import END, MIXED, asking, chain
from test_tables import DEEP
from walking import ALL, COUNT, OLD, ONE, QUESTIONS, SCHEMA, SICK

from oneservesall.errors import Unreadable
from oneservesall.readers import (
    read_asker, read_number, read_question, read_release, read_scheme, read_schema, read_table, read_tree,
)

SICK_COUNT = "(count (is (value ill) 1))"
# Words that are no integers, and so no numbers either.
NO_WHOLES = ["", "-", "+1", "--1", "-0", "00", "01", "-01", "1-", "1.0", "1e3", "a", "1a", "0x1", "1_0", "1234567890",
             "-1234567890", "0123456789", "9" * 5000, "(1)", "1,", ",", ":", "none", "end", "/"]
# Words that are no integers, but numbers or near to them.
NO_FRACTIONS = ["1/", "/2", "1//2", "1/2/3", "1/1", "0/1", "0/5", "2/4", "-2/4", "6/3", "1/0", "0/0", "1/-2", "1/+2",
                "1/02", "01/2", "-0/3", "1/1234567890", "1234567890/7", "1/a", "a/2", "1/2a", "+1/2", "1 /2", "1/ 2"]
WHOLES = ["0", "1", "-1", "10", "99", "123456789", "-987654321", "100000000"]
FRACTIONS = ["1/2", "-1/2", "123456789/987654322", "-7/999999999", "999999999/2", "10/9"]


class Reading(Raising):
    def told(self, reader, *arguments):
        """What a reader has of a text, or the number of its error."""
        try:
            return "read", reader(*arguments)
        except Unreadable as error:
            return "unreadable", error.value

    def refused(self, n, reader, *arguments):
        self.assertEqual(self.told(reader, *arguments), ("unreadable", n), arguments[-1])

    def has(self, expected, reader, *arguments):
        self.assertEqual(self.told(reader, *arguments), ("read", expected), arguments[-1])


class NumberTest(Reading, unittest.TestCase):
    def test_right_ones(self):
        for text in WHOLES:
            self.has((int(text), 1), read_number, text)
        for text in FRACTIONS:
            self.has(tuple(map(int, text.split("/"))), read_number, text)
            self.assertEqual(number_text(read_number(text=text)), text)

    def test_whatever_is_wrong(self):
        for text in NO_WHOLES + NO_FRACTIONS + [" 1", "1 ", "1 1", " ", "1/2 ", "(number 1)"]:
            self.refused(1, read_number, text)
            self.refused(1, read_number, text + "\n1")
        for text in ["1\n", "1\n1", "1/2\n\n", "0\n0\n0", "0\nnone"]:
            self.refused(2, read_number, text)
        self.refused(1, read_number, "\n1")
        self.refused(1, read_number, "\n")


class QuestionTest(Reading, unittest.TestCase):
    def test_right_ones(self):
        for question in QUESTIONS + [("count", ("is", summed(11), summed(11))), ("different", ALL, nested(7)),
                                     ("count", denied(ALL, 6)), ("different", ALL, ("number", 99)),
                                     ("sum", ALL, ("number", -99), -999, 999)]:
            self.has(question, read_question, SCHEMA, part_text(question))
            self.assertEqual(read_question(text=part_text(question), schema=SCHEMA), question)
        rng = random.Random(261)
        for _ in range(80):
            question = fitting(rng, drawn_question, WIDE)
            self.has(question, read_question, WIDE, part_text(question))

    def test_not_as_it_is_shown(self):
        for text in ["", " ", "(", ")", "()", "(())", "count", "5", "-5", "0", "(5)", "(count)", "count (all)",
                     "(count (all)", "count (all))", "(count (all)))", "((count (all)))", "(count (all)) ",
                     " (count (all))", "(count  (all))", "( count (all))", "(count (all) )", "(count ( all))",
                     "(count(all))", "(count (all)", ")count (all)(", "(count (all))(count (all))",
                     "(count (all)) (count (all))", "(count all)", "(count (all)),", "(count, (all))", "(Count (all))",
                     "(count (value age))", "(count (all) (all))", "(count (is (value ill) (number 1)))",
                     "(count (is (value ill) (1)))", "(count (is (value ill) 01))", "(count (is (value ill) +1))",
                     "(count (is (value ill) -0))", "(count (is (value ill) 1/2))", "(count (is (value ill) 100))",
                     "(count (is (value ill) -100))", "(count (is (value ill) 1234567890))",
                     "(count (is (value ill) " + "9" * 5000 + "))", "(count (is (value name) 1))",
                     "(count (is value 1))", "(count (is (value 1) 1))", "(count (is (value (value ill)) 1))",
                     "(count (is ill 1))", "(count (is 'ill' 1))", "(sum (all) (value age) 6 0)",
                     "(sum (all) (value age) 0)", "(sum (all) (value age) 0 6 6)", "(sum (all) (value age) 0 1000)",
                     "(sum (all) (value age) (0) 6)", "(sum (all) (value age) 0 6/1)", "(sum (value age) (all) 0 6)",
                     "(part (count (all)) 1)", "(part (count (all)) 100)", "(part 5 2)", "(part (all) 2)",
                     "(kept (count (all)) 2 1)", "(kept (count (all)) a b)", "(all)", "(value age)",
                     "(is (value ill) 1)", "(number 5)", "(count (both (all)))", "(mean (all) (value age))",
                     "('count', ('all',))"]:
            self.refused(1, read_question, SCHEMA, text)
            self.refused(1, read_question, SCHEMA, text + "\n(count (all))")
        # A text or an integer is shown as what it should be, so these wrong questions have texts of right ones.
        right = [part_text(OLD), part_text(("different", SICK, ONE)), part_text(("kept", COUNT, 0, 1)),
                 part_text(("part", COUNT, 2))]
        for wrong in NO_QUESTIONS:
            if not isinstance(wrong, tuple) or wrong is DEEP or DEEP in wrong or "()" in repr(wrong):
                continue
            if part_text(wrong) not in right:
                self.refused(1, read_question, SCHEMA, part_text(wrong))

    def test_of_another_schema_or_too_great(self):
        self.refused(1, read_question, WIDE, SICK_COUNT)
        self.refused(1, read_question, SCHEMA, part_text(("count", ("is", summed(11), summed(13)))))
        self.refused(1, read_question, SCHEMA, part_text(("different", ALL, nested(8))))
        self.refused(1, read_question, SCHEMA, part_text(("count", denied(ALL, 7))))

    def test_many_brackets(self):
        for many in (8, 9, 10, 39, 40, 500, 3000):
            self.refused(1, read_question, SCHEMA, "(" * many + ")" * many)
            self.refused(1, read_question, SCHEMA, "(count " + "(not " * many + "(all)" + ")" * (many + 1))
            self.refused(1, read_question, SCHEMA, "(" * many)
            self.refused(1, read_question, SCHEMA, ")" * many)
            self.refused(1, read_question, SCHEMA, "(part " * many + "(count (all))" + " 2)" * many)
            self.refused(1, read_question, SCHEMA, "(count (all" + ")" * many + "(" * many + "))")

    def test_more_lines(self):
        for behind in ("", "(count (all))", "x", "\n"):
            self.refused(2, read_question, SCHEMA, SICK_COUNT + "\n" + behind)
        self.refused(1, read_question, SCHEMA, "\n" + SICK_COUNT)


class SchemaTest(Reading, unittest.TestCase):
    def test_right_ones(self):
        rng = random.Random(262)
        for schema in [SCHEMA, WIDE] + [random_schema(rng) for _ in range(40)]:
            self.has(schema, read_schema, schema_text(schema))
            self.assertEqual(read_schema(text=schema_text(schema)), schema)

    def test_lines_that_can_not_stand(self):
        for line in ["", " ", "age", "age :", "age : ", "age 1", "age: 1", "age :1", "age:1", "age  : 1", "age :  1",
                     " age : 1", "age : 1 ", "age : 1  2", "age : 1, 2", ": 1", " : 1", "Age : 1", "age1 : 1",
                     "a b : 1", "abcdefghi : 1", "age : : 1", "age : 1 : 2", "5 : 1", "- : 1", "age : one"]:
            self.refused(1, read_schema, line)
            self.refused(1, read_schema, line + "\nb : 1")
            self.refused(2, read_schema, "a : 1\n" + line)
            self.refused(3, read_schema, "b : 1\na : 1\n" + line + "\n?\nc : 1")
        for word in NO_WHOLES + ["1/2"]:
            self.refused(2, read_schema, f"a : 1\nb : 1 {word}\nc : 1")
            self.refused(1, read_schema, f"a : {word} 1")

    def test_the_whole(self):
        for text in ["b : 1\na : 1", "a : 1\na : 1", "a : 1\na : 2", "a : 1\nc : 1\nb : 1", "a : 2 1", "a : 1 1",
                     "a : 100", "a : -100", "a : 123456789", "a : 1 2 3 4 5 6 7 8 9", "a : 1\nb : 3 2",
                     "a : 1\nb : -999999999"]:
            self.refused(0, read_schema, text)
        self.has((("a", (-99, 99)),), read_schema, "a : -99 99")
        self.has((("a", (1, 2, 3, 4, 5, 6, 7, 8)),), read_schema, "a : 1 2 3 4 5 6 7 8")


class TableTest(Reading, unittest.TestCase):
    def test_right_ones(self):
        rng = random.Random(263)
        for many in (0, 1, 2, 5, 12, 20):
            for schema in (SCHEMA, random_schema(rng)):
                people = random_table(rng, schema, many)
                self.has(people, read_table, schema, table_text(people))
                self.assertEqual(read_table(text=table_text(people), schema=schema), people)

    def test_nobody(self):
        self.has((), read_table, SCHEMA, "none")
        for behind in ("", "none", "1 0", "x", "\n"):
            self.refused(2, read_table, SCHEMA, "none\n" + behind)
        self.refused(2, read_table, SCHEMA, "1 0\nnone")
        self.refused(3, read_table, SCHEMA, "1 0\n5 1\nnone\n1 0")
        self.refused(2, read_table, SCHEMA, "7 7\nnone")
        for text in ("None", "none ", " none", "none none", "none 1", "1 none"):
            self.refused(1, read_table, SCHEMA, text)

    def test_lines_that_can_not_stand(self):
        for line in ["", " ", " 1 0", "1 0 ", "1  0", "1,0", "(1 0)", "1 : 0",
                     "1 1/2"] + [f"1 {word}" for word in NO_WHOLES]:
            self.refused(1, read_table, SCHEMA, line)
            self.refused(2, read_table, SCHEMA, "1 0\n" + line)
            self.refused(2, read_table, SCHEMA, "1 7\n" + line + "\n1 0")

    def test_the_whole(self):
        for text in ["1", "1 0 0", "2 0", "1 2", "0 1", "-1 0", "1 123456789", "1 0\n1", "1 0\n5 7\n1 0", "0", "1\n0"]:
            self.refused(0, read_table, SCHEMA, text)


class SchemeTest(Reading, unittest.TestCase):
    def test_right_ones(self):
        rng = random.Random(264)
        for scheme in [SURE, COIN[3], random_scheme(rng, 20, 64, True)] + [random_scheme(rng, k,
                                                                                         6 - k) for k in range(1, 6)]:
            self.has(scheme, read_scheme, scheme_text(scheme))
            self.assertEqual(read_scheme(text=scheme_text(scheme)), scheme)

    def test_lines_that_can_not_stand(self):
        for line in ["", " ", " 1/2 1/2", "1/2 1/2 ", "1/2  1/2", "1/2,1/2", "1/2, 1/2", "none", "end", "1/2 : 1/2"]:
            self.refused(1, read_scheme, line)
            self.refused(2, read_scheme, "1/2 1/2\n" + line)
            self.refused(3, read_scheme, "1\n1/2 1/2\n" + line + "\n?")
        for word in NO_WHOLES + NO_FRACTIONS:
            self.refused(2, read_scheme, f"0 1\n1/2 {word}\n0 1")

    def test_the_whole(self):
        for text in ["0", "1/2", "2", "-1", "1/2 1/3", "3/2 -1/2", "1 1", "1\n0", "1\n1/2 1/2", "1/2 1/2\n1",
                     "1/2 1/2\n1/2 1/3", "1 0\n1 0 0", "123456789/987654322"]:
            self.refused(0, read_scheme, text)


class ReleaseTest(Reading, unittest.TestCase):
    def test_right_ones(self):
        rng = random.Random(265)
        for rows, answers in [(1, 1), (2, 3), (20, 64), (5, 2), (3, 3)]:
            release = some_release(rng, WIDE, rows, answers)
            self.has(release, read_release, WIDE, release_text(release))
            self.assertEqual(read_release(text=release_text(release), schema=WIDE), release)
        for question in QUESTIONS:
            for low in (-999999999, -1, 0, 5):
                told = (question, low, low + 1, COIN[3])
                self.has(told, read_release, SCHEMA, release_text(told))

    def test_lines_that_can_not_stand(self):
        first, ends, rows = SICK_COUNT, "0 1", "2/3 1/3\n1/3 2/3"
        for line in ["", "(all)", "count", first + " ", " " + first, "0 1", "1/2 1/2", "none", "5"]:
            self.refused(1, read_release, SCHEMA, "\n".join([line, ends, rows]))
            self.refused(1, read_release, SCHEMA, line)
            self.refused(1, read_release, SCHEMA, line + "\n?")
        self.refused(1, read_release, WIDE, "\n".join([first, ends, rows]))
        for line in ["", "0", "0 1 2", " 0 1", "0 1 ", "0  1", "0,1", "0 : 1", "1/2 1", "0 1/2", first, "none"]:
            self.refused(2, read_release, SCHEMA, "\n".join([first, line, rows]))
            self.refused(2, read_release, SCHEMA, "\n".join([first, line]))
            self.refused(2, read_release, SCHEMA, "\n".join([first, line, "?"]))
        for word in NO_WHOLES:
            self.refused(2, read_release, SCHEMA, "\n".join([first, f"{word} 1", rows]))
            self.refused(2, read_release, SCHEMA, "\n".join([first, f"0 {word}", rows]))
        for word in NO_WHOLES + NO_FRACTIONS:
            self.refused(4, read_release, SCHEMA, "\n".join([first, ends, "2/3 1/3", f"1/3 {word}"]))
            self.refused(3, read_release, SCHEMA, "\n".join([first, "1 0", f"{word} 1/3", "1/3 ?"]))
        self.refused(5, read_release, SCHEMA, "\n".join([first, ends, rows, ""]))
        self.refused(3, read_release, SCHEMA, "\n".join([first, ends, ""]))

    def test_the_whole(self):
        first = SICK_COUNT
        for behind in [[], ["0 1"], ["0 0"], ["1 0"], ["0 1", "2/3 1/3"], ["0 1", "1", "1", "1"], ["0 0", "1", "1"],
                       ["1 0", "2/3 1/3", "1/3 2/3"], ["0 1", "1/2 1/2", "1/2 1/3"], ["0 1", "1", "1/2 1/2"],
                       ["0 1", "3/2 -1/2", "1/2 1/2"], ["0 2", "1", "1"], ["0 999999999", "1"], ["0 1", "0 1"]]:
            self.refused(0, read_release, SCHEMA, "\n".join([first, *behind]))


class TreeTest(Reading, unittest.TestCase):
    ASK = f"ask 0 1 : {SICK_COUNT} : 2/3 1/3, 1/3 2/3"
    SAY = f"ask 0 0 : {SICK_COUNT} : 1"

    def test_right_ones(self):
        rng = random.Random(266)
        for told in [END, MIXED, asking(COIN, END, END)] + [chain(COIN, deep, END, deep % 2) for deep in range(1, 7)]:
            self.has(told, read_tree, SCHEMA, tree_text(told))
            self.assertEqual(read_tree(text=tree_text(told), schema=SCHEMA), told)
        for _ in range(30):
            told = some_tree(rng, WIDE, 4)
            self.has(told, read_tree, WIDE, tree_text(told))
        told = asking(some_release(rng, WIDE, 20, 64), *[END] * 64)
        self.has(told, read_tree, WIDE, tree_text(told))

    def test_blanks_ahead(self):
        for blanks in range(20):
            n = 1 if blanks % 2 or blanks > 12 else 0
            if blanks:
                self.refused(n, read_tree, SCHEMA, " " * blanks + "end")
                self.refused(n, read_tree, SCHEMA, " " * blanks + self.ASK + "\n  end\n  end")
            for line in ("end", self.ASK, self.SAY):
                # Two ends belong where two blanks are, and the line is one more or in the place of one.
                if blanks != 2 or line != "end":
                    self.refused(2 * n, read_tree, SCHEMA, f"{self.ASK}\n{' ' * blanks}{line}\n  end")
                self.refused(4 * n, read_tree, SCHEMA, f"{self.ASK}\n  end\n  end\n{' ' * blanks}{line}")
        told = chain(COIN, 7, END)
        self.refused(8, read_tree, SCHEMA, tree_text(told))
        self.refused(2, read_tree, SCHEMA, f"{self.SAY}\n\tend")

    def test_lines_that_can_not_stand(self):
        for line in ["", "  ", "End", "ends", "end ", "end end", "none", "(end)", "ask", "ask ", self.ASK + " ",
                     self.ASK + ",", self.ASK + ", ", self.ASK + " : ", self.ASK.replace("ask ", "ask  "),
                     self.ASK.replace("ask ", ""), self.ASK.replace("ask", "Ask"), self.ASK.replace("ask ", "ask"),
                     self.ASK.replace("0 1", "0"), self.ASK.replace("0 1", "0 1 2"), self.ASK.replace("0 1", "0  1"),
                     self.ASK.replace("0 1", ""), self.ASK.replace("0 1", "0 1/2"), self.ASK.replace("0 1", "00 1"),
                     self.ASK.replace("0 1", "0 1234567890"), self.ASK.replace(" : ", ":"),
                     self.ASK.replace(" : ", "  : "), self.ASK.replace(" : ", " "), self.ASK.replace(" : ", " :  "),
                     self.ASK.replace("count", "counted"), self.ASK.replace("ill", "name"),
                     self.ASK.replace(SICK_COUNT, ""), self.ASK.replace(SICK_COUNT, "(all)"),
                     self.ASK.replace(SICK_COUNT, SICK_COUNT + " : " + SICK_COUNT), self.ASK.replace(", ", ","),
                     self.ASK.replace(", ", " , "), self.ASK.replace(", ", ",  "), self.ASK.replace(", ", ", , "),
                     self.ASK.replace("2/3", "2/4"), self.ASK.replace("2/3", "1/1"), self.ASK.replace("2/3", "a"),
                     self.ASK.replace("2/3", ""), self.ASK.split(" : 2/3")[0], self.ASK.split(" : 2/3")[0] + " : "]:
            self.refused(1, read_tree, SCHEMA, line)
            self.refused(1, read_tree, SCHEMA, line + "\n?")
            self.refused(2, read_tree, SCHEMA, f"{self.ASK}\n  {line}\n  end")
            self.refused(2, read_tree, SCHEMA, f"end\n{line}")
            self.refused(3, read_tree, SCHEMA, f"  end\n{self.SAY}\n{line}\n?")
        for word in NO_WHOLES + NO_FRACTIONS:
            self.refused(2, read_tree, SCHEMA, f"{self.SAY}\n  {self.SAY} {word}\n    end")
            self.refused(1, read_tree, SCHEMA, f"ask 0 {word} : {SICK_COUNT} : 1\n  end")
        self.refused(1, read_tree, WIDE, self.SAY + "\n  end")

    def test_the_whole(self):
        ask, say = self.ASK, self.SAY
        for lines in [["end", "end"], ["  end"], [ask], [ask, "  end"], [ask, "end", "end"], [ask, "  end", "end"],
                      [ask, "  end", "  end", "  end"], [ask, "  end", "  end", "end"], [ask, "    end", "    end"],
                      [ask, "  end", "    end"], [ask, "  end", "  end", "    end"], ["end", "  end"],
                      [say, "  " + say, "  end"], [say, "  " + say, "    end", "  end"],
                      [say, "  " + say, "    end", "end"], [say.replace("0 0", "1 0"), "  end"],
                      [say.replace("0 0", "0 1"), "  end"], [say.replace(": 1", ": 2"), "  end"],
                      [say.replace(": 1", ": 1/2"), "  end"], [say.replace(": 1", ": 3/2 -1/2"), "  end", "  end"],
                      [ask.replace(", 1/3 2/3", ", 1"), "  end", "  end"],
                      [ask.replace(", 1/3 2/3", ""), "  end", "  end"], [say, "  end", ask], [say], [say, say, "  end"],
                      [say, "  " + say]]:
            self.refused(0, read_tree, SCHEMA, "\n".join(lines))
        self.has(asking((COUNT, 0, 0, SURE), END), read_tree, SCHEMA, say + "\n  end")


class AskerTest(Reading, unittest.TestCase):
    def test_right_ones(self):
        rng = random.Random(267)
        for _ in range(6):
            for asker in random_askers(rng):
                self.has(asker, read_asker, asker_text(asker))
                self.assertEqual(read_asker(text=asker_text(asker)), asker)

    def test_lines_that_can_not_stand(self):
        for line in ["", " ", " 0 1", "0 1 ", "0  1", "0, 1",
                     "none"] + [f"0 {word}" for word in NO_WHOLES + NO_FRACTIONS]:
            self.refused(1, read_asker, f"{line}\n0 1\n0 1")
            self.refused(2, read_asker, f"1/2 1/2\n{line}\n0 1")
            self.refused(3, read_asker, f"1/2 1/3\n0 1\n{line}\n?")

    def test_the_whole(self):
        for text in ["1", "0", "1\n0 1", "1\n0\n0", "1/2 1/2", "1/2 1/2\n0 1", "1/2 1/2\n0 1\n0 1\n0 1",
                     "1/2 1/2\n0 1\n0", "1/2 1/2\n0 1\n0 1 2", "1/2 1/3\n0 1\n0 1", "3/2 -1/2\n0 1\n0 1",
                     "1/2 1/2\n1 0\n0 1", "1/2 1/2\n0 1\n1 1/2", "1/2 1/2\n-1 1\n0 1", "1/2 1/2\n0 1\n-1 -1/2", "2\n0"]:
            self.refused(0, read_asker, text)
        self.has((((1, 1),), (((5, 1),),)), read_asker, "1\n5")


class EachReaderTest(Reading, unittest.TestCase):
    def test_texts_of_all_other_kinds(self):
        scheme, asker = "1/2 1/2\n1/3 2/3", "1/2 1/2\n0 1\n0 2"
        release, tree = f"{SICK_COUNT}\n0 0\n1", f"{TreeTest.SAY}\n  end"
        texts = ["", "5", "1/2", SICK_COUNT, "age : 1 5\nill : 0 1", "1 0\n5 1", "none", scheme, release, tree, "end",
                 asker]
        # What each reader says of each text, in this sequence; "=" where it reads what this shows.
        for name, reader, expected in [
                ("number", read_number, ["1", "=", "=", "1", "1", "1", "1", "1", "1", "1", "1", "1"]),
                ("question", lambda text: read_question(SCHEMA, text),
                 ["1", "1", "1", "=", "1", "1", "1", "1", "2", "1", "1", "1"]),
                ("schema", read_schema, ["1", "1", "1", "1", "=", "1", "1", "1", "1", "1", "1", "1"]),
                ("table", lambda text: read_table(SCHEMA, text),
                 ["1", "0", "1", "1", "1", "=", "=", "1", "1", "1", "1", "1"]),
                ("scheme", read_scheme, ["1", "0", "0", "1", "1", "0", "1", "=", "1", "1", "1", "0"]),
                ("release", lambda text: read_release(SCHEMA, text),
                 ["1", "1", "1", "0", "1", "1", "1", "1", "=", "1", "1", "1"]),
                ("tree", lambda text: read_tree(SCHEMA, text), ["1", "1", "1", "1", "1", "1", "1", "1", "1", "=", "=",
                                                                "1"]),
                ("asker", read_asker, ["1", "0", "0", "1", "1", "0", "1", "0", "1", "1", "1", "="])]:
            said = ["=" if word == "read" else str(n) for word, n in [self.told(reader, text) for text in texts]]
            self.assertEqual(said, expected, name)

    def test_what_was_read_is_made_of_tuples(self):
        for told in (read_schema("a : 1"), read_table(SCHEMA, "1 0"), read_scheme("1"), read_asker("1\n0"),
                     read_release(SCHEMA, f"{SICK_COUNT}\n0 0\n1"), read_tree(SCHEMA, f"{TreeTest.SAY}\n  end"),
                     read_question(SCHEMA, part_text(OLD)), read_number("1/2")):
            self.assertNotIn("[", repr(told))
            self.assertIs(type(told), tuple)


if __name__ == "__main__":
    unittest.main()
