"""Point 23: texts of histories, markings and tables, and the first wrong line of all others."""

import unittest

from rowmarks.errors import BadText
from rowmarks.markings import marking
from rowmarks.rules import every_table
from rowmarks.texts import history_text, marking_text, read_history, read_marking, read_rules, rules_text
from drawn import drawn_history
from oddities import NO_NUMBERS, Stranger

VALUES = {"x": 0, "y": 1}
OPERATIONS = (
    ("begin",), ("crash",), ("clean",), ("save", 1), ("release", 10), ("back", 10 ** 6), ("commit", 2), ("abort", 3), ("prepare", 4),
    ("horizon", 0), ("horizon", 60), ("lock", 1, "x", "hold"), ("lock", 10 ** 6, "abcdef", "replace"),
    ("change", 1, "locks", "change", 0), ("change", 2, "ab", "replace", -5), ("change", 7, "set", "change", 10 ** 30 - 1),
    ("change", 7, "none", "change", -(10 ** 30) + 1), ("lock", 1, "at", "keep"), ("lock", 1, "mark", "change"), ("lock", 2, "begin", "hold"),
)
LINES = (
    "begin", "crash", "clean", "save 1", "release 10", "back 1000000", "commit 2", "abort 3", "prepare 4", "horizon 0", "horizon 60",
    "lock 1 x hold", "lock 1000000 abcdef replace", "change 1 locks change 0", "change 2 ab replace -5",
    "change 7 set change " + "9" * 30, "change 7 none change -" + "9" * 30, "lock 1 at keep", "lock 1 mark change", "lock 2 begin hold",
)
WRONG_OPERATIONS = (
    "", " ", "begin ", " begin", "Begin", "BEGIN", "begin 1", "begins", "save", "save ", "save  1", "save 1 ", "save 1 1", "save 01",
    "save +1", "save -1", "save 0", "save 1000001", "save x", "save 1.0", "save 1_0", "savepoint 1", "save\t1", "save 1\r", "horizon", "horizon 61",
    "horizon -1", "horizon 00", "horizon -0", "horizon 1 1", "lock 1 x", "lock 1 x hold 5", "lock 1 X hold", "lock 1 abcdefg hold",
    "lock 1  hold", "lock 1 x held", "lock 1 x Hold", "lock x 1 hold", "lock 0 x hold", "change 1 x change", "change 1 x hold 5",
    "change 1 x change 5 5", "change 1 x change -0", "change 1 x change +1", "change 1 x change 05", "change 1 x change -05",
    "change 1 x change --5", "change 1 x change -", "change 1 x change ", "change 1 x change 1e3", "change 1 x change 1" + "0" * 30,
    "change 1 x change -1" + "0" * 30, "change 1 x change 5.", "change 5 1 x change", "change 1 x change True", "(begin)", "'begin'",
    "save \u00b2", "save \u0661", "change 1 x change \uff15", "begin,", "begin;crash", "begin\x0bcrash", "clean clean", "wait 1", "None", "at 1", "save 1" + "0" * 5000,
)
HOLD, CHANGE = (1, "locks", "hold"), (2, "changes", "change")
WRITES = (
    ("set", 1, (HOLD, CHANGE)), ("set", 10 ** 6, ()), ("set", 7, ((10 ** 6, "locks", "replace"),)), ("mark", "x", 0, None),
    ("mark", "none", 10 ** 6, None), ("mark", "set", 5, 10 ** 6), ("mark", "mark", 0, HOLD), ("mark", "locks", 3, (9, "changes", "replace")),
    ("mark", "at", 0, 1),
)
WRITE_LINES = (
    "set 1, 1 locks hold, 2 changes change", "set 1000000", "set 7, 1000000 locks replace", "mark x 0 none", "mark none 1000000 none",
    "mark set 5 set 1000000", "mark mark 0 1 locks hold", "mark locks 3 9 changes replace", "mark at 0 set 1",
)
WRONG_WRITES = (
    "", " ", "set", "set ", "set 0", "set 1000001", "set 01", "set +1", "set -1", "set 1 ", "set 1,", "set 1, ", "set 1,1 locks hold",
    "set 1,  1 locks hold", "set 1 , 1 locks hold", "set 1 1 locks hold", "set 1, 1 locks hold,", "set 1, 1 locks hold, ",
    "set 1, 1 locks hold, 1 locks hold", "set 1, 1 locks hold, 2 locks hold, 1 locks hold", "set 1, 0 locks hold", "set 1, 1000001 locks hold",
    "set 1, 01 locks hold", "set 1, 1 lock hold", "set 1, 1 changes hold", "set 1, 1 changes keep", "set 1, 1 locks", "set 1, 1 locks hold keep",
    "set 1, 1  locks hold", "set 1, locks 1 hold", "set 1, none", "set 1, set 2", "Set 1", "sets 1", "mark", "mark x", "mark x 0", "mark x 0 ",
    "mark x 0 None", "mark x 0 none ", "mark x 0  none", "mark x 0 none none", "mark x 00 none", "mark x -1 none", "mark x 1000001 none",
    "mark x +0 none", "mark X 0 none", "mark abcdefg 0 none", "mark  0 none", "mark 0 x none", "mark x 0 1", "mark x 0 set", "mark x 0 set 0",
    "mark x 0 set 1000001", "mark x 0 set 01", "mark x 0 set 1 1", "mark x 0 1 locks", "mark x 0 0 locks hold", "mark x 0 1 changes hold",
    "mark x 0 1 locks hold, 2 locks hold", "mark x 0 1, locks hold", "mark x, 0 none", "mark x 0 set 1, 1 locks hold", "mark x 0 1 made hold",
    "marks x 0 none", "Mark x 0 none", "set x 0 none", "foo x 0 set 1", "mark x 0 sets 3", "mark x 0 none 3", "foo 1", "set \u00b2",
    "begin", "at", "at ", "at 0", "at x", "at 01", "at 1 1", "At 2", " at 2", "at  2", "at 2 ", "at 3", "at 1", "mark x 0 none\r",
)


class Texts(unittest.TestCase):
    def refused(self, read, text, line):
        for named in (False, True):
            with self.subTest(text=repr(text)[:200]), self.assertRaises(BadText) as caught:
                read(text=text) if named else read(text)
            self.assertEqual(caught.exception.line, line)

    def not_strings(self, read):
        for value in NO_NUMBERS + (5, b"", b"begin", ["begin"], ("begin",), Stranger()):
            if not isinstance(value, str):
                self.refused(read, value, 1)


class Histories(Texts):
    def test_lines(self):
        for operation, line in zip(OPERATIONS, LINES):
            self.assertEqual((history_text((operation,)), read_history(line)), (line, (operation,)))
        self.assertEqual(history_text(history=OPERATIONS), "\n".join(LINES))
        self.assertEqual(read_history(text="\n".join(LINES)), OPERATIONS)

    def test_none_and_sixty(self):
        self.assertEqual((history_text(()), read_history("")), ("", ()))
        sixty = OPERATIONS * 3
        self.assertEqual((len(sixty), read_history(history_text(sixty))), (60, sixty))
        for last in ("begin", "", "save"):
            self.refused(read_history, history_text(sixty) + "\n" + last, 61)
            self.refused(read_history, history_text(sixty) + "\n" + last + "\nbegin\n", 61)

    def test_wrong_lines(self):
        for line in WRONG_OPERATIONS:
            if line:
                self.refused(read_history, line, 1)
                self.refused(read_history, line + "\nbegin", 1)
            self.refused(read_history, "begin\n" + line, 2)
            self.refused(read_history, "begin\nsave 1\n" + line + "\ncrash\nwrong", 3)

    def test_newlines(self):
        for text, line in (("\n", 1), ("\nbegin", 1), ("begin\n", 2), ("begin\n\ncrash", 2), ("begin\r\ncrash", 1), ("begin\ncrash\n\n", 3)):
            self.refused(read_history, text, line)

    def test_values_of_all_kinds(self):
        self.not_strings(read_history)

    def test_what_is_read_need_not_be_possible(self):
        self.assertEqual(read_history("commit 7\nhorizon 60"), (("commit", 7), ("horizon", 60)))

    def test_drawn_ones(self):
        for seed in range(20):
            history = drawn_history(VALUES, seed, 60)
            self.assertEqual(read_history(history_text(history)), history)


class Markings(Texts):
    def test_lines(self):
        for write, line in zip(WRITES, WRITE_LINES):
            self.assertEqual((marking_text(((write,),)), read_marking("at 1\n" + line)), ("at 1\n" + line, ((write,),)))
        whole = (WRITES[:4], (), WRITES[4:], ())
        text = "\n".join(["at 1", *WRITE_LINES[:4], "at 2", "at 3", *WRITE_LINES[4:], "at 4"])
        self.assertEqual((marking_text(marking=whole), read_marking(text=text)), (text, whole))

    def test_none_and_sixty(self):
        self.assertEqual((marking_text(()), read_marking("")), ("", ()))
        self.assertEqual((marking_text(((),)), read_marking("at 1")), ("at 1", ((),)))
        sixty = ((WRITES[0],),) * 60
        text = marking_text(sixty)
        self.assertEqual(read_marking(text), sixty)
        for last in ("at 61", "at 1", "wrong", ""):
            self.refused(read_marking, text + "\n" + last, 121)
        self.assertEqual(read_marking(text + "\nmark x 0 none")[59], (WRITES[0], ("mark", "x", 0, None)))

    def test_forty_members(self):
        members = tuple((part, "locks", "hold") for part in range(1, 42))
        for many in (0, 1, 39, 40):
            value = ((("set", 5, members[:many]),),)
            self.assertEqual(read_marking(marking_text(value)), value)
        self.refused(read_marking, marking_text(((), (("set", 5, members),))), 3)
        self.refused(read_marking, marking_text(((("set", 5, members[:39] + members[:1]),),)), 2)

    def test_wrong_lines(self):
        for line in WRONG_WRITES:
            self.refused(read_marking, "at 1\n" + line, 2)
            self.refused(read_marking, "at 1\nmark x 0 none\n" + line + "\nat 2\nwrong", 3)

    def test_writes_ahead_of_the_first_operation(self):
        for line in WRITE_LINES:
            self.refused(read_marking, line, 1)
            self.refused(read_marking, line + "\nat 1", 1)

    def test_numbers_of_operations(self):
        for text, line in (("at 2", 1), ("at 0", 1), ("at 1\nat 3", 2), ("at 1\nat 1", 2), ("at 1\nat 2\nat 2", 3), ("at 1\nset 1\nat 02", 3)):
            self.refused(read_marking, text, line)

    def test_newlines(self):
        for text, line in (("\n", 1), ("\nat 1", 1), ("at 1\n", 2), ("at 1\n\nat 2", 2), ("at 1\r\nat 2", 1), ("at 1 ", 1)):
            self.refused(read_marking, text, line)

    def test_the_same_set_twice_is_no_wrong_form(self):
        self.assertEqual(read_marking("at 1\nset 1\nset 1"), ((("set", 1, ()), ("set", 1, ())),))

    def test_values_of_all_kinds(self):
        self.not_strings(read_marking)

    def test_drawn_ones(self):
        for seed in range(20):
            value = marking(VALUES, drawn_history(VALUES, seed, 60))
            self.assertEqual(read_marking(marking_text(value)), value)


class Tables(Texts):
    TEXT = "base none each beside ended all unnamed"

    def test_all(self):
        for rules in every_table():
            text = " ".join(rules.words)
            self.assertEqual((rules_text(rules=rules), read_rules(text=text) == rules), (text, True))
            self.assertEqual(read_rules(text).words, rules.words)

    def test_wrong_lines(self):
        words = self.TEXT.split(" ")
        for text in (
            "", " ", self.TEXT + " ", " " + self.TEXT, self.TEXT.upper(), self.TEXT.capitalize(), "  ".join(words), " ".join(words[:6]),
            " ".join(words + ["kept"]), " ".join(words[::-1]), ",".join(words), self.TEXT + "\r", self.TEXT.replace("each", "every"),
            self.TEXT.replace("ended all", "all ended"), "\t".join(words), "\n" + self.TEXT, "\n", "\n".join(words),
        ):
            self.refused(read_rules, text, 1)
            if "\n" not in text:
                self.refused(read_rules, text + "\n" + self.TEXT, 1)

    def test_lines_behind_the_table(self):
        for more in ("", self.TEXT, "wrong", "\n", "\n\n"):
            self.refused(read_rules, self.TEXT + "\n" + more, 2)

    def test_values_of_all_kinds(self):
        self.not_strings(read_rules)
        self.refused(read_rules, "one", 1)


if __name__ == "__main__":
    unittest.main()
