"""Points 2 and 11 by handles of transactions, and attempt."""

import unittest

from rowmarks import errors
from rowmarks.handles import Transaction
from rowmarks.stores import Store
from oddities import NO_NUMBERS, NOT_NAMES, NO_ROWS, NO_VALUES, UNKNOWN
from pictures import answers, store_picture


def scene(many=2):
    store = Store({"x": 5, "y": 0})
    return store, [Transaction(store, store.begin()) for _ in range(many)]


def whole(store):
    return store_picture(store), answers(store)


class Handles(unittest.TestCase):
    def test_the_number(self):
        store, (first, second) = scene()
        self.assertEqual((first.number, second.number), (1, 2))
        self.assertEqual(Transaction(number=2, store=store).number, 2)

    def test_no_such_transaction(self):
        store, _ = scene()
        before = whole(store)
        for value in UNKNOWN + (3,):
            with self.assertRaises(errors.UnknownTransaction) as caught:
                Transaction(store, value)
            self.assertIs(caught.exception.value, value)
        self.assertEqual(whole(store), before)

    def test_making_a_handle_is_no_operation(self):
        store, _ = scene()
        self.assertEqual(store.operations, 2)

    def test_brackets_read_and_change(self):
        store, (first, second) = scene()
        first["x"] = 7
        self.assertEqual((first["x"], second["x"], first["y"]), (7, 5, 0))
        self.assertEqual((store.version("x", 1), store.operations), ((7, 1, "change"), 3))
        first["x"] += 1
        self.assertEqual((first["x"], store.versions("x")), (8, [0, 1, 2]))

    def test_names_in_a_handle(self):
        _, (first, _) = scene()
        self.assertEqual(["x" in first, "y" in first, "z" in first], [True, True, False])
        for value in NO_ROWS:
            self.assertIs(value in first, value == "y")

    def test_a_handle_is_not_iterated_over(self):
        _, (first, _) = scene()
        self.assertRaises(TypeError, list, first)

    def test_locks(self):
        store, (first, second) = scene()
        self.assertEqual([first.lock("x"), second.lock("x", mode="keep"), first.lock(name="y", mode="replace")], [None] * 3)
        self.assertEqual([first.profile("x"), second.profile(name="x"), first.profile("y")], [("hold",), ("keep",), ("replace",)])

    def test_changes(self):
        store, (first, _) = scene()
        self.assertEqual([first.change("x", 1), first.change("y", mode="replace", value=-2)], [None, None])
        self.assertEqual([store.version("x", 1), store.version("y", 1)], [(1, 1, "change"), (-2, 1, "replace")])

    def test_modes_are_passed_by_name(self):
        _, (first, _) = scene()
        self.assertRaises(TypeError, first.lock, "x", "keep")
        self.assertRaises(TypeError, first.change, "x", 1, "replace")

    def test_parts_and_ends(self):
        store, (first, second) = scene()
        self.assertEqual([first.save(), first.save(), first.release(), first.back()], [3, 4, None, None])
        self.assertEqual((store.parts(1), store.fate(4)), ([1], "rolled back"))
        self.assertEqual([first.prepare(), first.commit(), second.abort()], [None] * 3)
        self.assertEqual([store.state(1), store.state(2), store.moment()], ["committed", "aborted", 1])

    def test_two_handles_of_one_transaction(self):
        store, (first, _) = scene()
        other = Transaction(store, 1)
        first["x"] = 9
        other.save()
        self.assertEqual((other["x"], store.parts(1)), (9, [1, 3]))
        first.back()
        other.lock("y")
        self.assertEqual((first.profile("y"), other.profile("y")), (("hold",), ("hold",)))

    def test_a_handle_kept_behind_the_end(self):
        store, (first, second) = scene()
        second.commit()
        before = whole(store)
        calls = (
            second.save, second.release, second.back, second.prepare, second.commit, second.abort,
            lambda: second.lock("q"), lambda: second.change("q", None), lambda: second["q"], lambda: second.attempt([]),
        )
        for call in calls:
            with self.assertRaises(errors.Ended) as caught:
                call()
            self.assertEqual(caught.exception.number, 2)
        with self.assertRaises(errors.Ended):
            second["x"] = 1
        self.assertEqual((second.profile("x"), "x" in second, whole(store)), ((), True, before))
        self.assertEqual(Transaction(store, 2).number, 2)

    def test_errors_are_those_of_the_store(self):
        store, (first, second) = scene()
        second.lock("x", mode="keep")
        before = whole(store)
        for value in NOT_NAMES:
            for call in (lambda: first[value], lambda: first.lock(value), lambda: first.profile(value)):
                with self.assertRaises(errors.BadName) as caught:
                    call()
                self.assertIs(caught.exception.value, value)
        for value in NO_VALUES:
            with self.assertRaises(errors.BadValue) as caught:
                first["x"] = value
            self.assertIs(caught.exception.value, value)
        for value in NO_NUMBERS:
            with self.assertRaises(errors.BadMode) as caught:
                first.lock("x", mode=value)
            self.assertIs(caught.exception.value, value)
        with self.assertRaises(errors.Blocked) as caught:
            first["x"] = 6
        self.assertEqual((caught.exception.numbers, whole(store)), ((2,), before))


class Attempts(unittest.TestCase):
    GOOD = [("change", "x", "change", 6), ("lock", "y", "keep"), ("change", "x", "replace", 7)]

    def test_all_go(self):
        for kind in (list, tuple):
            store, (first, _) = scene()
            self.assertIsNone(first.attempt(kind(self.GOOD)))
            self.assertEqual((first["x"], store.parts(1), store.profile(1, "y"), store.operations), (7, [1], ("keep",), 7))
            self.assertEqual((store.owner(3), store.version("x", 1)), (1, (6, 3, "change")))

    def test_none_at_all(self):
        for requests in ([], ()):
            store, (first, _) = scene()
            self.assertIsNone(first.attempt(requests=requests))
            self.assertEqual((store.operations, store.parts(1), store.joined_at(3)), (4, [1], 4))

    def test_requests_are_left_as_they_are(self):
        store, (first, _) = scene()
        requests = list(self.GOOD)
        first.attempt(requests)
        self.assertEqual(requests, self.GOOD)

    def test_one_is_refused(self):
        bad = (
            (("lock", "q", "hold"), errors.BadName, "value", "q"),
            (("lock", ["x"], "hold"), errors.BadName, "value", ["x"]),
            (("lock", "x", None), errors.BadMode, "value", None),
            (("change", "x", "keep", 6), errors.BadMode, "value", "keep"),
            (("change", "x", "change", True), errors.BadValue, "value", True),
            (("change", "y", "replace", 10 ** 30), errors.BadValue, "value", 10 ** 30),
            (("lock", "y", "replace"), errors.Blocked, "numbers", (2,)),
            (("change", "y", "replace", 5), errors.Blocked, "numbers", (2,)),
        )
        for request, kind, attribute, value in bad:
            for at in range(len(self.GOOD) + 1):
                store, (first, second) = scene()
                second.lock("y")
                requests = self.GOOD[:at] + [request] + self.GOOD[at:]
                with self.subTest(request=request, at=at), self.assertRaises(kind) as caught:
                    first.attempt(requests)
                self.assertEqual(getattr(caught.exception, attribute), value)
                # The two transactions, the lock of the second one, the savepoint, what was done, the rollback.
                self.assertEqual((store.operations, store.parts(1), first["x"]), (3 + 1 + at + 1, [1], 5))
                self.assertEqual((store.fate(3), store.ended_at(3)), ("rolled back", store.operations))
                self.assertEqual((store.profile(1, "x"), store.profile(1, "y"), store.writes()), ((None,), (None,), ()))

    def test_the_very_error_goes_on(self):
        store, (first, _) = scene()
        value = ["no", "name"]
        with self.assertRaises(errors.BadName) as caught:
            first.attempt([("lock", value, "hold")])
        self.assertIs(caught.exception.value, value)
        self.assertEqual((store.fate(3), store.operations), ("rolled back", 4))

    def test_inner_parts_are_left(self):
        store, (first, _) = scene()
        first.save()
        first["x"] = 1
        with self.assertRaises(errors.BadName):
            first.attempt([("change", "x", "change", 2), ("lock", "q", "hold")])
        self.assertEqual((store.parts(1), first["x"]), ([1, 3], 1))
        first.attempt([("change", "x", "change", 3)])
        self.assertEqual((store.parts(1), first["x"]), ([1, 3], 3))

    def test_what_save_raises(self):
        store, (first, second) = scene()
        for _ in range(4):
            first.save()
        second.prepare()
        before = whole(store)
        with self.assertRaises(errors.TooMany) as caught:
            first.attempt([("lock", "q", "hold")])
        self.assertEqual(caught.exception.limit, 5)
        self.assertRaises(errors.Prepared, second.attempt, self.GOOD)
        self.assertEqual(whole(store), before)

    def test_the_innermost_savepoint_that_can_be(self):
        store, (first, _) = scene()
        for _ in range(3):
            first.save()
        first.attempt(self.GOOD)
        self.assertEqual((store.parts(1), first["x"]), ([1, 3, 4, 5], 7))


if __name__ == "__main__":
    unittest.main()
