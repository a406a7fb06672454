"""Points 2, 6, 8 and 12: what a Store refuses, which error comes first, and that nothing changes."""

import unittest

from rowmarks import errors
from rowmarks.stores import Store
from oddities import NO_MODES, NO_NUMBERS, NO_ROWS, NO_VALUES, NOT_NAMES, UNKNOWN, Stranger, twin
from pictures import answers, store_picture

LETTERS = "abcdefghijklmnopqrstuvwxyz"
NO_VERSIONS = NO_NUMBERS[:3] + NO_NUMBERS[4:] + (4, 5, 10 ** 6, "0", (0,), [0], {0: 0})


def scene():
    """1 has committed and 5 has ended, 2 changes x, 3 locks x and is prepared, 4 locks y in an inner part."""
    store = Store({"x": 0, "y": 1})
    for _ in range(5):
        store.begin()
    store.change(1, "x", "change", 1)
    store.commit(1)
    store.change(2, "x", "change", 2)
    store.save(2)
    store.change(2, "x", "change", 3)
    store.back(2)
    store.lock(3, "x", "hold")
    store.prepare(3)
    store.save(4)
    store.lock(4, "y", "keep")
    store.abort(5)
    store.move_horizon(1)
    return store


class Values(unittest.TestCase):
    def refused(self, value):
        before = None if isinstance(value, Stranger) else twin(value)
        for named in (False, True):
            with self.subTest(repr(value)), self.assertRaises(errors.BadValues) as caught:
                Store(values=value) if named else Store(value)
            self.assertIs(caught.exception.value, value)
            if before is not None:
                self.assertEqual(value, before)

    def test_none_and_thirteen(self):
        self.refused({})
        for many in (13, 14, 26):
            self.refused({name: 0 for name in LETTERS[:many]})

    def test_names_that_are_none(self):
        for name in NOT_NAMES:
            if not isinstance(name, (list, dict)) and name.__hash__ is not None:
                try:
                    self.refused({name: 0})
                    self.refused({"x": 0, name: 0})
                except TypeError:
                    # A tuple with a list in it is no key.
                    self.assertIsInstance(name, tuple)

    def test_values_that_are_none(self):
        for value in NO_VALUES:
            self.refused({"x": value})
            self.refused({"x": 0, "y": value, "z": 0})

    def test_values_that_are_no_dicts(self):
        for value in NO_NUMBERS + ("x", ["x"], ("x",), [("x", 0)], (("x", 0),), 1, Stranger()):
            if value != {"number": 1}:
                self.refused(value)


class Refused(unittest.TestCase):
    def setUp(self):
        self.store = scene()

    def refused(self, call, arguments, name, value, attribute="value"):
        store = self.store
        before = store_picture(store), answers(store)
        with self.subTest(call=call, arguments=repr(arguments)):
            with self.assertRaises(errors.MarkError) as caught:
                if isinstance(arguments, dict):
                    getattr(store, call)(**arguments)
                else:
                    getattr(store, call)(*arguments)
            self.assertEqual(caught.exception.__class__.__name__, name)
            kept = getattr(caught.exception, attribute)
            if name == "Blocked":
                self.assertEqual((kept, kept.__class__), (value, tuple))
            else:
                self.assertIs(kept, value)
            self.assertEqual((store_picture(store), answers(store)), before)

    def request(self, number, row, mode, worth, name, value, attribute="value", calls=("lock", "change")):
        if "lock" in calls:
            self.refused("lock", (number, row, mode), name, value, attribute)
            self.refused("lock", {"mode": mode, "number": number, "name": row}, name, value, attribute)
        if "change" in calls:
            self.refused("change", (number, row, mode, worth), name, value, attribute)
            self.refused("change", {"value": worth, "mode": mode, "name": row, "number": number}, name, value, attribute)

    def test_transactions_come_first(self):
        for value in UNKNOWN:
            self.request(value, "q", "no mode", "no value", "UnknownTransaction", value)
            self.refused("read", (value, "q"), "UnknownTransaction", value)
            self.refused("profile", (value, "q"), "UnknownTransaction", value)
        for number in (1, 5):
            self.request(number, "q", "no mode", "no value", "Ended", number, "number")
            self.refused("read", (number, "q"), "Ended", number, "number")
        self.request(3, "q", "no mode", "no value", "Prepared", 3, "number")
        self.refused("read", (3, "x"), "Prepared", 3, "number")

    def test_names_come_next(self):
        for value in NO_ROWS:
            self.request(2, value, "no mode", "no value", "BadName", value)
            self.refused("read", (2, value), "BadName", value)
            self.refused("profile", {"name": value, "number": 1}, "BadName", value)
            self.refused("blockers", (value, "no mode"), "BadName", value)
            for call in ("versions", "base", "newest", "changer"):
                self.refused(call, (value,), "BadName", value)
                self.refused(call, {"name": value}, "BadName", value)
            for call in ("version", "mark", "need"):
                self.refused(call, (value, "no version"), "BadName", value)

    def test_versions_come_next(self):
        for value in NO_VERSIONS:
            for call in ("version", "mark", "need"):
                self.refused(call, ("x", value), "UnknownVersion", value)
                self.refused(call, {"version": value, "name": "y"}, "UnknownVersion", value)
        for value in (0, 3):
            self.refused("need", ("x", value), "UnknownVersion", value)

    def test_modes_come_next(self):
        for value in NO_MODES:
            self.request(2, "x", value, "no value", "BadMode", value)
            self.refused("blockers", {"name": "x", "mode": value, "asker": "none"}, "BadMode", value)
        for mode in ("hold", "keep"):
            self.request(2, "x", mode, "no value", "BadMode", mode, calls=("change",))

    def test_values_come_next(self):
        for value in NO_VALUES:
            self.request(4, "x", "change", value, "BadValue", value, calls=("change",))
            self.request(2, "x", "replace", value, "BadValue", value, calls=("change",))

    def test_the_way_comes_last(self):
        for mode, numbers in (("change", (2,)), ("replace", (2, 3))):
            self.request(4, "x", mode, 5, "Blocked", numbers, "numbers")
        self.request(2, "y", "change", 5, "Blocked", (4,), "numbers")
        self.request(4, "x", "keep", 5, "Blocked", (2,), "numbers", calls=("lock",))

    def test_askers_that_are_no_transactions(self):
        for value in UNKNOWN:
            if value is not None:
                self.refused("blockers", {"asker": value, "mode": "hold", "name": "x"}, "UnknownTransaction", value)

    def test_moments(self):
        self.store.begin()
        self.store.commit(6)
        self.store.move_horizon(1)
        for value in (0, 3, 4, 60, 61) + NO_NUMBERS:
            for call in ("move_horizon", "at"):
                self.refused(call, (value,), "BadMoment", value)
                self.refused(call, {"moment": value}, "BadMoment", value)
        self.assertEqual([self.store.at(1), self.store.at(2)], [{"x": 1, "y": 1}] * 2)

    def test_the_methods_of_fates_refuse_as_before(self):
        for call in ("save", "release", "back", "prepare", "commit", "abort"):
            for value in UNKNOWN:
                self.refused(call, (value,), "UnknownTransaction", value)
            self.refused(call, {"number": 5}, "Ended", 5, "number")
        self.refused("back", (2,), "FirstPart", 2, "number")
        self.refused("prepare", (4,), "StillOpen", 4, "number")
        self.refused("save", (3,), "Prepared", 3, "number")
        self.refused("root", (100,), "UnknownPart", 100)


class Prepared(unittest.TestCase):
    def test_a_prepared_one_still_stands_in_the_way(self):
        store = scene()
        self.assertEqual(store.blockers("x", "replace"), [2, 3])
        store.commit(3)
        self.assertEqual(store.blockers("x", "replace"), [2])


if __name__ == "__main__":
    unittest.main()
