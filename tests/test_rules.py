"""Points 20 to 22: tables of rules, what is told by them, and which are right."""

import unittest

from rowmarks.errors import BadMode, BadName, BadRules, Impossible, UnknownTransaction
from rowmarks.histories import first_refused, listed
from rowmarks.ruled import Ruled
from rowmarks.rules import Rules, every_table, is_right, told, told_by, wrong_history
from drawn import drawn_history
from naive_locks import RANKS
from naive_rules import NAMES, WORDS, NaiveRuled, naive_is_right
from oddities import NO_MODES, NO_NUMBERS, NO_ROWS, Stranger
from walker import Walker

VALUES = {"x": 0, "y": 0}
RIGHT = dict(reads="base", carries="all", marks="each", harder="beside", drops="none", cleans="all", numbers="kept")


def table(**others):
    return Rules(**{**RIGHT, **others})


def words_of(rules):
    return dict(zip(NAMES, rules.words))


def drawn_tables(walker, many):
    for _ in range(many):
        yield {name: walker.pick(WORDS[name]) for name in NAMES}


class Tables(unittest.TestCase):
    def test_words(self):
        for name in NAMES:
            for word in WORDS[name]:
                self.assertEqual(table(**{name: word}).words, tuple({**RIGHT, name: word}.values()))

    def test_by_name_only(self):
        self.assertRaises(TypeError, Rules, *RIGHT.values())
        self.assertEqual(Rules(**dict(reversed(RIGHT.items()))).words, tuple(RIGHT.values()))

    def refused(self, **others):
        values = {**RIGHT, **others}
        with self.assertRaises(BadRules) as caught:
            Rules(**values)
        kept = caught.exception.value
        self.assertIsInstance(kept, tuple)
        self.assertEqual(len(kept), 7)
        for value, one in zip(values.values(), kept):
            self.assertIs(one, value)

    def test_wrong_words(self):
        for name in NAMES:
            for value in NO_NUMBERS + ("Base", "new", "base ", ("base",), ["each"], Stranger()):
                self.refused(**{name: value})
            others = {word for words in WORDS.values() for word in words} - set(WORDS[name])
            for word in sorted(others):
                self.refused(**{name: word})

    def test_several_wrong_words(self):
        self.refused(reads="all", numbers=[])
        self.refused(**{name: None for name in NAMES})
        self.refused(**{name: "none" for name in NAMES})

    def test_equal_ones(self):
        some = table()
        self.assertIs(some == table(), True)
        for name in NAMES:
            for word in WORDS[name]:
                self.assertIs(some == table(**{name: word}), RIGHT[name] == word)
        for value in NO_NUMBERS + (tuple(RIGHT.values()), dict(RIGHT), Stranger()):
            self.assertIs(some == value, False)
            self.assertIs(value == some, False)

    def test_every_table(self):
        rows = [()]
        for name in NAMES:
            rows = [row + (word,) for row in rows for word in WORDS[name]]
        found = [rules.words for rules in every_table()]
        self.assertEqual((len(found), len(set(found)), found), (1458, 1458, rows))
        self.assertEqual([rules.words for rules in every_table()], rows)
        two = every_table(), every_table()
        self.assertEqual([next(two[0]).words, next(two[0]).words, next(two[1]).words], [rows[0], rows[1], rows[0]])


class Right(unittest.TestCase):
    def test_which_are_right(self):
        right = [rules for rules in every_table() if is_right(rules)]
        self.assertEqual(len(right), 68)
        for rules in every_table():
            self.assertIs(is_right(rules=rules), naive_is_right(words_of(rules)))

    def test_wrong_histories_of_all_tables(self):
        for rules in every_table():
            found = wrong_history(rules=rules)
            if is_right(rules):
                self.assertIsNone(found)
                continue
            history, (name, mode, asker) = found
            self.assertIsInstance(found, tuple)
            self.assertLessEqual(len(history), 12)
            self.assertIsNone(first_refused(VALUES, history))
            naive = NaiveRuled(words_of(rules), VALUES)
            for operation in history:
                naive.perform(operation)
            self.assertIn((name, mode, asker), naive.wrong_requests())
            answer = told(rules, VALUES, history, name, mode, asker=asker)
            self.assertEqual(answer, naive.told(name, mode, asker))
            self.assertNotEqual(answer, listed(VALUES, history).blockers(name, mode, asker=asker))

    def test_right_tables_are_right_behind_drawn_histories(self):
        right = [words_of(rules) for rules in every_table() if is_right(rules)]
        for seed in range(12):
            history = drawn_history(VALUES, seed, 40)
            for words in right:
                naive = NaiveRuled(words, VALUES)
                for operation in history:
                    naive.perform(operation)
                self.assertEqual(naive.wrong_requests(), [], (words, history))


class Compared(unittest.TestCase):
    def kept(self, rows):
        """All marks and all sets, also those from which nothing is told for now."""
        marks = {name: {version: row.mark(version) for version in row.kept()} for name, row in rows._rows.items()}
        return marks, {number: list(rows._book[number]) for number in rows._book.taken()}

    def check(self, words, history):
        rules, naive, rows = Rules(**words), NaiveRuled(words, VALUES), Ruled(tuple(words.values()), VALUES)
        for operation in history:
            naive.perform(operation)
            rows.do(operation)
            self.assertEqual(self.kept(rows), naive.kept(), (words, history))
        for name in VALUES:
            self.assertEqual(told_by(rules, VALUES, history, name), naive.told_by(name), (words, history, name))
            for mode in RANKS:
                for asker in [None, *naive.naive.running()]:
                    answer = told(rules, VALUES, history, name, mode, asker=asker)
                    self.assertEqual(answer, naive.told(name, mode, asker))

    def test_drawn_tables_behind_drawn_histories(self):
        for seed in range(60):
            walker = Walker(seed)
            history = drawn_history(VALUES, seed, 12 + seed % 45)
            for words in drawn_tables(walker, 4):
                self.check(words, history)

    def test_all_tables_behind_one_history(self):
        history = (
            ("begin",), ("begin",), ("begin",), ("lock", 3, "x", "hold"), ("lock", 1, "x", "hold"), ("save", 1), ("lock", 1, "y", "keep"),
            ("change", 1, "x", "change", 1), ("release", 1), ("save", 1), ("lock", 1, "y", "replace"), ("change", 1, "x", "change", 2),
            ("lock", 2, "x", "hold"), ("back", 1), ("abort", 3), ("clean",), ("change", 1, "x", "change", 3), ("lock", 2, "x", "hold"),
        )
        for rules in every_table():
            naive = NaiveRuled(words_of(rules), VALUES)
            for operation in history:
                naive.perform(operation)
            for name in VALUES:
                self.assertEqual(told_by(rules, VALUES, history, name), naive.told_by(name))


class Told(unittest.TestCase):
    """What single words do, by what is told for x."""

    def things(self, history, **others):
        return told_by(table(**others), VALUES, history, "x")[1]

    def test_reads(self):
        history = (
            ("begin",), ("begin",), ("lock", 2, "x", "hold"), ("change", 1, "x", "change", 1), ("save", 1), ("change", 1, "x", "change", 2), ("back", 1),
        )
        hold, change, made = (2, "locks", "hold"), (1, "changes", "change"), (1, "made", "change")
        base = [(0, hold, 3), (0, change, 4), (1, hold, 3), (1, made, 4)]
        self.assertEqual(self.things(history, carries="others"), base)
        self.assertEqual(self.things(history, carries="others", reads="newest"), base[2:])
        self.assertEqual(self.things(history, carries="others", reads="every"), base + [(2, hold, 3)])

    def test_carries(self):
        history = (
            ("begin",), ("begin",), ("lock", 2, "x", "hold"), ("lock", 1, "x", "hold"), ("change", 1, "x", "change", 1), ("change", 1, "x", "change", 2),
        )
        other, own, made = (2, "locks", "hold"), (1, "locks", "hold"), (1, "locks", "change")
        for word, carried in (("none", []), ("others", [other]), ("all", [other, own, made])):
            found = self.things(history, carries=word, reads="newest")
            self.assertEqual([thing for _, thing, _ in found], carried + [(1, "made", "change")])
        again = history + (("change", 1, "x", "change", 3),)
        found = self.things(again, reads="newest")
        # The maker's lock is added again, though it stands there already.
        self.assertEqual([thing for _, thing, _ in found], [other, own, made, made, (1, "made", "change")])
        self.assertEqual([time for _, _, time in found], [3, 4, 7, 7, 7])

    def test_carries_of_a_maker_that_was_released(self):
        history = (
            ("begin",), ("save", 1), ("lock", 1, "x", "keep"), ("change", 1, "x", "change", 1), ("release", 1), ("change", 1, "x", "change", 2),
        )
        for word, carried in (("none", [(2, "locks", "change")]), ("joined", [(2, "locks", "change")])):
            found = self.things(history, drops=word, reads="newest")
            expected = [(2, "locks", "keep")] * (word == "none") + carried + [(1, "made", "change")]
            self.assertEqual([thing for _, thing, _ in found], expected)

    def test_marks(self):
        history = (("begin",), ("begin",), ("change", 1, "x", "change", 1), ("change", 1, "x", "change", 2), ("lock", 2, "x", "hold"))
        for word, versions in (("base", [0]), ("newest", [2]), ("each", [0, 1, 2])):
            found = self.things(history, marks=word, carries="none")
            self.assertEqual([version for version, thing, _ in found if thing[0] == 2], versions)
            own = self.things(history[:-1] + (("lock", 1, "x", "replace"),), marks=word, carries="none")
            self.assertEqual([version for version, thing, _ in own if thing[2] == "replace"], [2])

    def test_harder(self):
        history = (("begin",), ("begin",), ("lock", 2, "x", "hold"), ("lock", 1, "x", "hold"), ("save", 1), ("lock", 1, "x", "keep"))
        other, weak, hard = (2, "locks", "hold"), (1, "locks", "hold"), (3, "locks", "keep")
        self.assertEqual(self.things(history), [(0, other, 3), (0, weak, 4), (0, hard, 6)])
        self.assertEqual(self.things(history, harder="instead"), [(0, other, 3), (0, hard, 6)])
        self.assertEqual(self.things(history, harder="outermost"), [(0, other, 3), (0, weak, 4), (0, (1, "locks", "keep"), None)])
        self.assertEqual(told_by(table(harder="outermost"), VALUES, history, "x")[0], [(0, 0), (1, 0), (2, None)])
        first = (("begin",), ("save", 1), ("lock", 1, "x", "hold"))
        for word in WORDS["harder"]:
            self.assertEqual(self.things(first, harder=word), [(0, (2, "locks", "hold"), 3)])

    def test_harder_keeps_changes(self):
        history = (("begin",), ("change", 1, "x", "change", 1), ("lock", 1, "x", "replace"), ("change", 1, "x", "change", 1), ("save", 1), ("lock", 1, "x", "replace"))
        found = self.things(history, harder="instead", carries="none")
        self.assertEqual([thing[1] for _, thing, _ in found], ["changes", "locks", "changes", "made", "made"])

    def test_drops(self):
        # A lock that ended and one that was released stand in the mark until something is written.
        history = (
            ("begin",), ("begin",), ("begin",), ("save", 3), ("lock", 1, "x", "hold"), ("lock", 3, "x", "hold"), ("release", 3), ("abort", 1),
            ("lock", 2, "x", "hold"),
        )
        for word, expected in (("none", [(4, "locks", "hold"), (2, "locks", "hold")]), ("joined", [(2, "locks", "hold")])):
            self.assertEqual([thing for _, thing, _ in self.things(history, drops=word)], expected)
        self.assertEqual(self.things(history, drops="ended"), self.things(history, drops="none"))

    def test_what_ended_is_not_told(self):
        history = (("begin",), ("begin",), ("lock", 1, "x", "hold"), ("lock", 2, "x", "hold"), ("commit", 1))
        self.assertEqual(told_by(table(), VALUES, history, "x"), ([(1, 0)], [(0, (2, "locks", "hold"), 4)]))

    def test_cleans(self):
        history = (
            ("begin",), ("begin",), ("lock", 2, "x", "hold"), ("change", 1, "x", "change", 1), ("commit", 1), ("begin",),
            ("change", 3, "x", "change", 2), ("abort", 3), ("clean",),
        )
        for word, versions in (("all", [1]), ("idle", [0, 1, 2])):
            found = self.things(history, cleans=word, reads="every", carries="others")
            self.assertEqual([version for version, _, _ in found], versions)
        ended = history[:-1] + (("abort", 2), ("clean",))
        self.assertEqual(self.things(ended, cleans="idle", reads="every"), [])

    def test_the_horizon_plays_no_part(self):
        history = (("begin",), ("begin",), ("lock", 2, "x", "hold"), ("change", 1, "x", "change", 1), ("commit", 1), ("clean",))
        self.assertEqual([row[0] for row in self.things(history, reads="every")], [1])

    def test_numbers(self):
        # The set of a dead list is named by x; where its number is free, y takes it.
        history = (
            ("begin",), ("begin",), ("lock", 2, "x", "hold"), ("lock", 2, "x", "change"), ("commit", 2), ("lock", 1, "y", "change"), ("clean",),
            ("change", 1, "y", "change", 1),
        )
        for word, thinks in (("kept", []), ("unnamed", []), ("ended", [(1, "locks", "change"), (1, "changes", "change")])):
            found = self.things(history, numbers=word)
            self.assertEqual([thing for _, thing, _ in found], thinks)
            self.assertEqual(told(table(numbers=word), VALUES, history, "x", "keep"), [1] * bool(thinks))
        # Such things stand for no operation of this row.
        self.assertEqual([time for _, _, time in self.things(history, numbers="ended")], [None, None])
        self.assertEqual(self.things(history[:-1], numbers="ended"), [])

    def test_idle_locks_write_nothing(self):
        history = (("begin",), ("lock", 1, "x", "keep"), ("lock", 1, "x", "hold"), ("lock", 1, "x", "keep"))
        # The thing stands for the last such lock, idle ones too.
        self.assertEqual(told_by(table(), VALUES, history, "x"), ([(0, 0)], [(0, (1, "locks", "keep"), 4)]))

    def test_made_things_stand_for_changes(self):
        history = (("begin",), ("change", 1, "x", "change", 1), ("lock", 1, "x", "change"), ("lock", 1, "y", "change"))
        found = self.things(history, carries="none")
        self.assertEqual(found, [(0, (1, "changes", "change"), 2), (1, (1, "made", "change"), 2)])

    def test_newcomers_and_askers(self):
        history = (("begin",), ("begin",), ("lock", 1, "x", "keep"), ("lock", 2, "x", "hold"), ("begin",), ("prepare", 3))
        for asker, answer in ((None, [1, 2]), (1, [2]), (2, [1]), (3, [1, 2])):
            self.assertEqual(told(table(), VALUES, history, "x", "replace", asker=asker), answer)
        self.assertEqual(told(table(), VALUES, history, "x", "change"), [1])
        self.assertEqual(told(rules=table(), values=VALUES, history=history, name="y", mode="replace", asker=None), [])

    def test_errors(self):
        history = (("begin",), ("begin",), ("abort", 2), ("begin",), ("prepare", 3))
        some = table()
        for bad, number in (((("save", 1),), 1), ([], 0)):
            with self.assertRaises(Impossible) as caught:
                told(some, VALUES, bad, "q", "no mode", asker="no asker")
            self.assertEqual(caught.exception.operation, number)
            self.assertRaises(Impossible, told_by, some, VALUES, bad, "q")
        for name in NO_ROWS:
            with self.assertRaises(BadName) as caught:
                told(some, VALUES, history, name, "no mode", asker="no asker")
            self.assertIs(caught.exception.value, name)
            with self.assertRaises(BadName) as caught:
                told_by(some, VALUES, history, name)
            self.assertIs(caught.exception.value, name)
        for mode in NO_MODES:
            with self.assertRaises(BadMode) as caught:
                told(some, VALUES, history, "x", mode, asker="no asker")
            self.assertIs(caught.exception.value, mode)
        for asker in (2, 4) + NO_NUMBERS:
            if asker is not None:
                with self.assertRaises(UnknownTransaction) as caught:
                    told(some, VALUES, history, "x", "hold", asker=asker)
                self.assertIs(caught.exception.value, asker)
        for asker in (1, 3, None):
            self.assertEqual(told(some, VALUES, history, "x", "hold", asker=asker), [])
        self.assertRaises(TypeError, told, some, VALUES, history, "x", "hold", 1)


if __name__ == "__main__":
    unittest.main()
