"""Point 15: operations by their form, histories, and what stands behind them."""

import unittest

from rowmarks.errors import Impossible
from rowmarks.fates import Fates
from rowmarks.histories import first_refused, is_operation, listed, run
from rowmarks.locklists import LockList
from rowmarks.markings import marking
from rowmarks.papers import papers, readings
from rowmarks.stores import Store
from drawn import drawn_history
from oddities import NO_MODES, NO_NUMBERS, NOT_NAMES, NO_VALUES
from pictures import answers, list_picture, store_picture

ALONE = (("begin",), ("crash",), ("clean",))
WITH_NUMBER = ("save", "release", "back", "commit", "abort", "prepare")
NUMBERS = (1, 2, 10 ** 6)
NO_TRANSACTIONS = (10 ** 6 + 1, 0, -1) + NO_NUMBERS
VALUES = {"x": 0, "y": 1}


class Operations(unittest.TestCase):
    def good(self, value):
        self.assertIs(is_operation(value), True, value)

    def bad(self, value):
        self.assertIs(is_operation(value), False, value)

    def test_words_alone(self):
        for operation in ALONE:
            self.good(operation)
            self.bad(operation + (1,))
            self.bad(operation + operation)
            self.bad(list(operation))
            self.bad(operation[0])
            self.bad((operation[0].capitalize(),))

    def test_words_with_a_number(self):
        for word in WITH_NUMBER:
            for number in NUMBERS:
                self.good((word, number))
                self.bad([word, number])
                self.bad((word, number, number))
            for number in NO_TRANSACTIONS:
                self.bad((word, number))
            self.bad((word,))

    def test_locks(self):
        for number in NUMBERS:
            for name in ("x", "abcdef"):
                for mode in ("hold", "keep", "change", "replace"):
                    self.good(("lock", number, name, mode))
                    self.bad(["lock", number, name, mode])
                    self.bad(("lock", number, name, mode, 5))
        for number in NO_TRANSACTIONS:
            self.bad(("lock", number, "x", "hold"))
        for name in NOT_NAMES:
            self.bad(("lock", 1, name, "hold"))
        for mode in NO_MODES:
            self.bad(("lock", 1, "x", mode))
        self.bad(("lock", 1, "x"))
        self.bad(("lock", 1))
        self.bad(("lock",))

    def test_changes(self):
        for value in (0, 5, -5, 10 ** 30 - 1, -(10 ** 30) + 1):
            for mode in ("change", "replace"):
                self.good(("change", 1, "x", mode, value))
                self.bad(["change", 1, "x", mode, value])
                self.bad(("change", 1, "x", mode, value, value))
        for value in NO_VALUES:
            self.bad(("change", 1, "x", "change", value))
        for mode in ("hold", "keep") + NO_MODES:
            self.bad(("change", 1, "x", mode, 5))
        for name in NOT_NAMES:
            self.bad(("change", 1, name, "change", 5))
        for number in NO_TRANSACTIONS:
            self.bad(("change", number, "x", "change", 5))
        self.bad(("change", 1, "x", "change"))
        self.bad(("changes", 1, "x", "change", 5))
        self.bad(("locks", 1, "x", "hold"))

    def test_horizons(self):
        for moment in (0, 1, 59, 60):
            self.good(("horizon", moment))
            self.bad(["horizon", moment])
            self.bad(("horizon", moment, moment))
        for moment in (61, 10 ** 6) + NO_NUMBERS:
            if moment != 0 or moment is False:
                self.bad(("horizon", moment))
        self.bad(("horizon",))

    def test_values_of_all_kinds(self):
        for value in ("begin", "clean", ("",), ("Begin",), ("end",), ("begin", ()), ("done", 1), ("wait", 1, "x", "hold")):
            self.bad(value)
        for value in NO_NUMBERS + (("begin",), ["begin"], ("lock", 1, "x", "hold")):
            self.bad((value,))
            self.bad((value, 1))
            self.bad((value, 1, "x", "hold"))
        self.assertIs(is_operation(value=("begin",)), True)


class Refused(unittest.TestCase):
    def test_histories(self):
        for history in ((), (("begin",),), (("begin",), ("commit", 1)), (("clean",), ("horizon", 0), ("crash",))):
            self.assertIsNone(first_refused(VALUES, history))
        self.assertIsNone(first_refused(history=(), values=VALUES))

    def test_what_is_no_tuple(self):
        for value in NO_NUMBERS + ([("begin",)], [()], "begin", {"begin": 1}):
            if not isinstance(value, tuple):
                self.assertEqual(first_refused(VALUES, value), 0)

    def test_tuples_of_values_of_all_kinds(self):
        for value in NO_NUMBERS:
            self.assertEqual(first_refused(VALUES, (value,)), 1)
            self.assertEqual(first_refused(VALUES, (("begin",), ("save", 1), value, ("begin",))), 3)

    def test_operations_that_are_refused(self):
        begun = (("begin",), ("begin",), ("lock", 1, "x", "hold"))
        for operation in (
            ("save", 3), ("release", 1), ("back", 2), ("commit", 3), ("lock", 3, "x", "hold"), ("lock", 2, "z", "hold"),
            ("lock", 2, "x", "replace"), ("change", 2, "x", "replace", 5), ("horizon", 1), ("abort", 10 ** 6),
        ):
            self.assertEqual(first_refused(VALUES, begun + (operation,)), 4)
            self.assertEqual(first_refused(VALUES, begun + (("clean",), operation, ("begin",))), 5)

    def test_the_first_of_several(self):
        wrong_form, refused = ("begin", 1), ("save", 7)
        self.assertEqual(first_refused(VALUES, (("begin",), refused, wrong_form)), 2)
        self.assertEqual(first_refused(VALUES, (("begin",), wrong_form, refused)), 2)

    def test_sixty_and_sixty_one(self):
        sixty = (("begin",),) + (("clean",),) * 59
        self.assertIsNone(first_refused(VALUES, sixty))
        for last in (("clean",), ("save", 9), None):
            self.assertEqual(first_refused(VALUES, sixty + (last,)), 61)
            self.assertEqual(first_refused(VALUES, sixty + (("clean",), last)), 61)
        self.assertEqual(first_refused(VALUES, sixty[:-1] + (("save", 9), ("clean",))), 60)

    def test_impossible(self):
        calls = (run, listed, papers, lambda values, history: readings(values, history, "q"), marking)
        for history, number in (
            ([], 0), ("", 0), (None, 0), ((None,), 1), ((("begin",), ("save", 2)), 2), ((("clean",),) * 61, 61)
        ):
            for call in calls:
                with self.assertRaises(Impossible) as caught:
                    call(VALUES, history)
                self.assertEqual(caught.exception.operation, number)


class Behind(unittest.TestCase):
    HISTORY = (
        ("begin",), ("begin",), ("lock", 1, "x", "hold"), ("save", 2), ("change", 2, "x", "change", 7), ("lock", 1, "x", "hold"),
        ("release", 2), ("horizon", 0), ("commit", 2), ("clean",), ("horizon", 1), ("begin",), ("save", 1), ("back", 1),
        ("prepare", 3), ("crash",), ("begin",), ("abort", 4),
    )

    def test_run(self):
        store = Store(VALUES)
        store.begin()
        store.begin()
        store.lock(1, "x", "hold")
        store.save(2)
        store.change(2, "x", "change", 7)
        store.lock(1, "x", "hold")
        store.release(2)
        store.move_horizon(0)
        store.commit(2)
        store.clean()
        store.move_horizon(1)
        store.begin()
        store.save(1)
        store.back(1)
        store.prepare(3)
        store.crash()
        store.begin()
        store.abort(4)
        told = run(VALUES, self.HISTORY)
        self.assertIsInstance(told, Store)
        self.assertEqual((store_picture(told), answers(told)), (store_picture(store), answers(store)))

    def test_listed(self):
        some = LockList(["x", "y"])
        some.begin()
        some.begin()
        some.lock(1, "x", "hold")
        some.save(2)
        some.change(2, "x", "change")
        some.lock(1, "x", "hold")
        some.release(2)
        told = listed(VALUES, self.HISTORY[:7])
        self.assertIsInstance(told, LockList)
        self.assertEqual(list_picture(told), list_picture(some))
        told = listed(history=self.HISTORY, values=VALUES)
        self.assertEqual((told.operations, told.joined_at(3), told.ended_at(2), told.state(3)), (18, 7, 9, "prepared"))

    def test_the_empty_one(self):
        self.assertEqual(store_picture(run(VALUES, ())), store_picture(Store(VALUES)))
        self.assertEqual(list_picture(listed(VALUES, ())), list_picture(LockList(("x", "y"))))

    def test_stores_and_lists_of_drawn_histories_answer_alike(self):
        for seed in range(20):
            history = drawn_history(VALUES, seed, 60)
            store, some = run(VALUES, history), listed(VALUES, history)
            self.assertEqual(answers(store), answers(some))
            self.assertEqual((store.operations, some.operations), (60, 60))
            self.assertIsInstance(store, Fates)

    def test_the_values_and_the_history_are_left(self):
        values = {"y": 1, "x": 0}
        run(values, self.HISTORY).clean()
        listed(values, self.HISTORY)
        self.assertEqual(list(values.items()), [("y", 1), ("x", 0)])


if __name__ == "__main__":
    unittest.main()
