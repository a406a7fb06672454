"""Points 13, 17, 18 and 24: the store's marking, and whether others fit."""

import unittest

from rowmarks.errors import Impossible
from rowmarks.histories import run
from rowmarks.markings import first_misfit, fits_history, marking
from drawn import drawn_history
from naive_marked import naive_first_misfit
from naive_store import NaiveStore
from oddities import NO_NUMBERS
from spoiled import spoiled, with_more, with_writes
from walker import Walker

VALUES = {"x": 0, "y": 1}
HOLD, OTHER = (1, "locks", "hold"), (2, "locks", "hold")
TWO = (("begin",), ("begin",), ("lock", 1, "x", "hold"), ("lock", 2, "x", "hold"))


class TheStoresMarking(unittest.TestCase):
    def test_it_is_what_the_operations_wrote(self):
        for seed in range(20):
            history = drawn_history(VALUES, seed, 40)
            told = marking(VALUES, history)
            self.assertEqual((len(told), told.__class__), (40, tuple))
            for at in (1, 7, 20, 40):
                self.assertEqual(run(VALUES, history[:at]).writes(), told[at - 1])
                self.assertEqual(marking(VALUES, history[:at]), told[:at])

    def test_it_is_that_of_the_naive_store(self):
        for seed in range(20):
            history, naive = drawn_history(VALUES, seed, 60), NaiveStore(VALUES)
            for operation, writes in zip(history, marking(VALUES, history)):
                naive.perform(operation)
                self.assertEqual(tuple(naive.writes), writes)

    def test_it_fits(self):
        for seed in range(40):
            history = drawn_history(VALUES, seed, 60)
            self.assertIsNone(first_misfit(VALUES, history, marking(VALUES, history)))
            self.assertIs(fits_history(VALUES, history, marking(VALUES, history)), True)

    def test_the_empty_one(self):
        self.assertEqual((marking(VALUES, ()), first_misfit(VALUES, (), ())), ((), None))
        self.assertIs(fits_history(values=VALUES, history=(), value=()), True)
        self.assertIs(fits_history(VALUES, (), ((),)), False)


class Judged(unittest.TestCase):
    def told(self, history, value):
        told = first_misfit(VALUES, history, value)
        self.assertEqual(told, naive_first_misfit(VALUES, history, value))
        self.assertIs(fits_history(VALUES, history, value), told is None)
        return told

    def test_drawn_ones(self):
        kinds = []
        for seed in range(150):
            walker = Walker(seed)
            history = drawn_history(VALUES, seed, 10 + seed % 31)
            value = marking(VALUES, history)
            for _ in range(6):
                bad = spoiled(VALUES, history, value, walker)
                told = self.told(history, bad)
                kinds.append("fits" if told is None else told[0] if len(told) < 5 else told[4])
        for kind in ("fits", "write", "mark", "need"):
            self.assertGreater(kinds.count(kind), 30, kind)

    def test_forms(self):
        value = marking(VALUES, TWO)
        for bad in (
            value[:-1], value + ((),), list(value), (list(value[0]),) + value[1:], value[:3] + (list(value[3]),),
            value[:3] + (None,), value[:3] + ("set",), ((),) * 3, ((),) * 5, {}, "", None,
        ):
            self.assertEqual(self.told(TWO, bad), ("form",))
        for bad in NO_NUMBERS:
            self.assertEqual(self.told(TWO, bad), ("form",))
            self.assertEqual(self.told((("begin",),), (bad,)), None if bad == () else ("write", 1, 0) if isinstance(bad, tuple) else ("form",))

    def test_impossible_comes_first(self):
        for history, number in (((("save", 1),), 1), ([], 0), (TWO + (None,), 5)):
            for call in (first_misfit, fits_history):
                with self.assertRaises(Impossible) as caught:
                    call(VALUES, history, "no marking")
                self.assertEqual(caught.exception.operation, number)

    def wrong(self, at, write, history=TWO):
        """Behind an operation, ahead of and behind what the store writes."""
        value = marking(VALUES, history)
        self.assertEqual(self.told(history, with_more(value, at, write)), ("write", at, len(value[at - 1])))
        self.assertEqual(self.told(history, with_writes(value, at, write, *value[at - 1])), ("write", at, 0))

    def test_values_that_are_no_writes(self):
        for value in NO_NUMBERS:
            self.wrong(4, value)
            self.wrong(1, ("set", 5, value) if value != () else ("set",))
            self.wrong(4, (value, 5, ()))
            self.wrong(4, ("mark", "x", value, None) if value is None or value != 0 or value is False else ("mark",))
            if value is not None:
                self.wrong(4, ("mark", "x", 0, value))

    def test_forms_of_writes(self):
        for write in (
            ("set", 5), ("set", 5, (), ()), ["set", 5, ()], ("mark", "x", 0), ("mark", "x", 0, None, None), ["mark", "x", 0, None],
            ("Set", 5, ()), ("marks", "x", 0, None), ("mark", 5, ()), ("set", "x", 0, None), ("set", 5, [HOLD]), ("set", 5, HOLD),
        ):
            self.wrong(4, write)

    def test_numbers_of_sets(self):
        for number in (0, 10 ** 6 + 1, -1, True, "5", None, (5,), 10 ** 59):
            self.wrong(3, ("set", number, (HOLD,)))
        value = marking(VALUES, TWO)
        for number in (2, 10 ** 6):
            self.assertIsNone(self.told(TWO, with_more(value, 4, ("set", number, (HOLD,)))))
        self.assertEqual(self.told(TWO, with_more(value, 4, ("set", 1, ()))), ("write", 4, 2))
        self.assertEqual(self.told(TWO, with_more(value, 4, ("set", 2, ()), ("set", 2, ()))), ("write", 4, 3))

    def test_members_of_sets(self):
        for members in (
            (HOLD, HOLD), (HOLD, OTHER, HOLD), ((3, "locks", "hold"),), (HOLD, (10 ** 6, "locks", "hold")), (HOLD, None),
            (HOLD, list(OTHER)), ((0, "locks", "hold"),), ((True, "locks", "hold"),), ((1, "changes", "hold"),), (1,),
        ):
            self.wrong(4, ("set", 5, members))
        self.assertIsNone(self.told(TWO, with_more(marking(VALUES, TWO), 4, ("set", 5, ()), ("set", 6, (OTHER, HOLD)))))

    def test_how_many_members(self):
        history = (("begin",),) + (("save", 1), ("back", 1)) * 10
        many = [(part, word, mode) for part in range(1, 12) for word, mode in (
            ("locks", "hold"), ("locks", "keep"), ("locks", "change"), ("changes", "change"), ("changes", "replace"),
        )]
        value = marking(VALUES, history)
        for count, told in ((40, None), (41, ("write", 21, 0)), (55, ("write", 21, 0))):
            self.assertEqual(self.told(history, with_more(value, 21, ("set", 1, tuple(many[:count])))), told)

    def test_parts_that_have_not_been_opened(self):
        self.wrong(1, ("mark", "x", 0, OTHER))
        self.wrong(1, ("set", 1, (OTHER,)))
        # A part that is opened by the very operation serves, though its member misfits.
        value = with_more(marking(VALUES, TWO), 2, ("mark", "x", 0, OTHER))
        self.assertEqual(self.told(TWO, value), ("misfit", 2, "x", 0, "mark", OTHER))

    def test_versions(self):
        history = (
            ("begin",), ("begin",), ("change", 1, "x", "change", 1), ("commit", 1), ("change", 2, "x", "change", 2), ("save", 2),
            ("change", 2, "x", "change", 3), ("back", 2), ("clean",),
        )
        for at in (8, 9):
            for version in (0, 3, 4, -1, True, "1", None):
                self.wrong(at, ("mark", "x", version, None), history)
        value = marking(VALUES, history)
        self.assertIsNone(self.told(history, with_more(value, 8, ("mark", "x", 2, None), ("mark", "x", 1, (2, "changes", "change")))))
        # Behind the commit, version 0 stands ahead of the base, though it is left.
        self.wrong(4, ("mark", "x", 0, None), history)
        self.wrong(2, ("mark", "x", 1, None), history)

    def test_rows(self):
        for name in ("z", "", None, ["x"], ("x",), 1, {"x": 0}):
            self.wrong(4, ("mark", name, 0, None))

    def test_marks(self):
        for mark in (2, 0, -1, True, False, "1", (), [1], list(HOLD), (3, "locks", "hold"), (HOLD,), 10 ** 6):
            self.wrong(4, ("mark", "x", 0, mark))

    def test_a_set_of_the_same_operation(self):
        value = marking(VALUES, TWO)
        self.assertIsNone(self.told(TWO, with_writes(value, 4, ("set", 9, (OTHER, HOLD)), ("mark", "x", 0, 9))))
        self.assertEqual(self.told(TWO, with_writes(value, 4, ("mark", "x", 0, 9), ("set", 9, (OTHER, HOLD)))), ("write", 4, 0))

    def test_a_set_that_was_forgotten(self):
        history = TWO + (("clean",), ("begin",), ("lock", 3, "y", "hold"), ("clean",))
        value = with_more(marking(VALUES, history), 4, ("set", 2, ()), ("set", 3, (HOLD,)))
        self.assertIsNone(self.told(history, value))
        self.assertEqual(self.told(history, with_more(value, 6, ("mark", "y", 0, 2))), ("write", 6, 0))
        self.assertIsNone(self.told(history, with_more(value, 5, ("mark", "y", 0, 2))))
        named = with_more(value, 5, ("mark", "y", 0, 2))
        self.assertIsNone(self.told(history, with_more(named, 6, ("mark", "y", 0, 2))))
        self.assertEqual(self.told(history, with_more(named, 6, ("set", 2, ()))), ("write", 6, 0))
        # Its number can be written again behind the cleaning, not at it.
        self.assertIsNone(self.told(history, with_more(value, 6, ("set", 2, (HOLD,)))))
        self.assertEqual(self.told(history, with_more(value, 5, ("set", 2, (HOLD,)))), ("write", 5, 0))

    def test_marks_ahead_of_the_base_name_no_sets_behind_a_cleaning(self):
        history = (("begin",), ("begin",), ("lock", 1, "x", "hold"), ("change", 2, "x", "change", 5), ("commit", 2), ("clean",), ("begin",))
        value = marking(VALUES, history)
        self.assertEqual([write[:2] for write in value[3] if write[0] == "set"], [("set", 1)])
        self.assertEqual(self.told(history, with_more(value, 6, ("set", 1, ()))), ("write", 6, 0))
        self.assertIsNone(self.told(history, with_more(value, 7, ("set", 1, ()))))

    def test_a_write_that_is_none_behind_a_misfit(self):
        value = marking(VALUES, TWO)
        missing = with_writes(value, 3)
        self.assertEqual(self.told(TWO, with_more(missing, 4, None)), ("misfit", 3, "x", 0, "need", HOLD))
        self.assertEqual(self.told(TWO, with_more(missing, 3, None)), ("write", 3, 0))

    def test_the_side_of_the_mark_comes_first(self):
        value = with_writes(marking(VALUES, TWO), 3, ("mark", "x", 0, OTHER))
        self.assertEqual(self.told(TWO, value), ("misfit", 3, "x", 0, "mark", OTHER))
        wide = ("set", 4, (OTHER, (1, "locks", "replace")))
        value = with_writes(marking(VALUES, TWO), 3, wide, ("mark", "x", 0, 4))
        self.assertEqual(self.told(TWO, value), ("misfit", 3, "x", 0, "mark", (1, "locks", "replace")))

    def test_the_first_name_and_version(self):
        history = (("begin",), ("begin",), ("lock", 1, "x", "hold"), ("change", 2, "x", "change", 5), ("begin",))
        value = marking(VALUES, history)
        spoil = (("mark", "y", 0, HOLD), ("mark", "x", 1, None), ("mark", "x", 0, None))
        self.assertEqual(self.told(history, with_more(value, 5, *spoil)), ("misfit", 5, "x", 0, "need", HOLD))
        self.assertEqual(self.told(history, with_more(value, 5, *spoil[:2])), ("misfit", 5, "x", 1, "need", HOLD))
        self.assertEqual(self.told(history, with_more(value, 5, *spoil[:1])), ("misfit", 5, "y", 0, "mark", HOLD))

    def test_needless_members_fit(self):
        history = TWO + (("abort", 2),)
        value = with_more(marking(VALUES, history), 5, ("set", 7, (OTHER, HOLD, (1, "locks", "hold"))[:2]), ("mark", "x", 0, 7))
        self.assertIsNone(self.told(history, value))
        covered = with_more(marking(VALUES, history[:3]), 3, ("set", 7, (HOLD, (1, "locks", "hold"))[:1]), ("mark", "x", 0, 7))
        self.assertIsNone(self.told(history[:3], covered))

    def test_a_write_behind_an_end(self):
        history = TWO + (("commit", 1),)
        value = marking(VALUES, history)
        self.assertEqual(value[4], ())
        self.assertIsNone(self.told(history, with_more(value, 5, ("mark", "x", 0, OTHER))))
        self.assertEqual(self.told(history, with_more(value, 5, ("mark", "x", 0, None))), ("misfit", 5, "x", 0, "need", OTHER))

    def test_nothing_is_changed(self):
        value = marking(VALUES, TWO)
        values = dict(VALUES)
        first_misfit(values, TWO, value)
        self.assertEqual((values, value), (VALUES, marking(VALUES, TWO)))


if __name__ == "__main__":
    unittest.main()
