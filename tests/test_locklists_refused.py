"""Points 2, 7 and 8: what a LockList refuses, which error comes first, and that nothing changes."""

import unittest

from rowmarks import errors
from rowmarks.locklists import LockList
from oddities import NEAR_NAMES, NO_MODES, NO_NUMBERS, NO_ROWS, NOT_NAMES, UNKNOWN, Stranger, twin
from pictures import list_picture

LETTERS = "abcdefghijklmnopqrstuvwxyz"


def scene():
    """3 is prepared, all others ended: 1, 2 and 5 aborted, 4 committed, 6 fell to a crash."""
    some = LockList(["x", "y"])
    for _ in range(6):
        some.begin()
    some.lock(4, "x", "hold")
    some.commit(4)
    some.abort(5)
    for number in (1, 2, 3):
        some.prepare(number)
    some.crash()
    some.abort(1)
    some.abort(2)
    return some


def running_scene():
    """1, 2, 3 and 4 lock x, 2 in its inner parts, 4 is prepared; 6 has changed y; 5 and 7 have ended."""
    some = LockList(("y", "x"))
    for _ in range(7):
        some.begin()
    some.lock(1, "x", "hold")
    some.lock(3, "x", "keep")
    some.save(2)
    some.lock(2, "x", "keep")
    some.save(2)
    some.lock(2, "x", "hold")
    some.lock(4, "x", "hold")
    some.prepare(4)
    some.lock(5, "x", "hold")
    some.abort(5)
    some.change(6, "y", "replace")
    some.lock(7, "x", "hold")
    some.commit(7)
    return some


class NamesOfRows(unittest.TestCase):
    def refused(self, value):
        before = None if isinstance(value, Stranger) else twin(value)
        for named in (False, True):
            with self.subTest(repr(value)), self.assertRaises(errors.BadValues) as caught:
                LockList(names=value) if named else LockList(value)
            self.assertIs(caught.exception.value, value)
            if before is not None:
                self.assertEqual(value, before)

    def test_none_and_thirteen(self):
        for value in ([], (), list(LETTERS[:13]), tuple(LETTERS[:13]), list(LETTERS)):
            self.refused(value)
        self.assertEqual(len(LockList(list(LETTERS[:12])).names), 12)

    def test_a_name_twice(self):
        for value in (["x", "x"], ("a", "b", "a"), ["ab", "ab", "ab"], list(LETTERS[:11]) + ["a"]):
            self.refused(value)

    def test_values_that_are_no_names(self):
        for name in NOT_NAMES:
            for value in ([name], (name,), ["x", name], (name, "x"), ["x", name, "y"]):
                self.refused(value)

    def test_values_that_are_no_lists(self):
        for value in NO_NUMBERS + NEAR_NAMES + ("x", "xy", 1, {"x": 5}, {"x": 5, "y": 0}, Stranger()):
            self.refused(value)

    def test_lists_in_lists(self):
        for value in ([["x"]], (("x",),), [("x", "y")], ["x", ["y"]]):
            self.refused(value)


class Refused(unittest.TestCase):
    def refused(self, some, call, arguments, name, attribute, value):
        before = list_picture(some)
        positional, named = arguments
        with self.subTest(call=call, arguments=repr(arguments)):
            with self.assertRaises(errors.MarkError) as caught:
                getattr(some, call)(*positional, **named)
            self.assertEqual(caught.exception.__class__.__name__, name)
            kept = getattr(caught.exception, attribute)
            if name == "Blocked":
                self.assertEqual(kept, value)
                self.assertIsInstance(kept, tuple)
            else:
                self.assertIs(kept, value)
            self.assertEqual(list_picture(some), before)

    def request(self, some, call, number, row, mode, name, attribute, value):
        self.refused(some, call, ((number, row, mode), {}), name, attribute, value)
        by_name = {"mode": mode, "number": number, "name": row}
        self.refused(some, call, ((), by_name), name, attribute, value)

    def test_unknown_transactions_come_first(self):
        for some in (scene(), running_scene()):
            for value in UNKNOWN:
                for call in ("lock", "change"):
                    self.request(some, call, value, "q", "no mode", "UnknownTransaction", "value", value)
                    self.request(some, call, value, "x", "replace", "UnknownTransaction", "value", value)
                self.refused(some, "profile", ((value, "q"), {}), "UnknownTransaction", "value", value)
                self.refused(some, "profile", ((), {"name": "x", "number": value}), "UnknownTransaction", "value", value)

    def test_ended_ones_come_next(self):
        for some, ended in ((scene(), (1, 2, 4, 5, 6)), (running_scene(), (5, 7))):
            for number in ended:
                for call in ("lock", "change"):
                    self.request(some, call, number, "q", "no mode", "Ended", "number", number)
                    self.request(some, call, number, "x", "change", "Ended", "number", number)

    def test_prepared_ones_come_next(self):
        for some, number in ((scene(), 3), (running_scene(), 4)):
            for call in ("lock", "change"):
                self.request(some, call, number, None, "no mode", "Prepared", "number", number)
                self.request(some, call, number, "x", "replace", "Prepared", "number", number)

    def test_names_of_no_rows_come_next(self):
        some = running_scene()
        for value in NO_ROWS:
            for call in ("lock", "change"):
                self.request(some, call, 2, value, "no mode", "BadName", "value", value)
                self.request(some, call, 2, value, "replace", "BadName", "value", value)
            for number in (1, 4, 5):
                self.refused(some, "profile", ((number, value), {}), "BadName", "value", value)
            self.refused(some, "blockers", ((value, "no mode"), {"asker": 100}), "BadName", "value", value)
            self.refused(some, "blockers", ((), {"mode": "hold", "name": value}), "BadName", "value", value)

    def test_values_that_are_no_modes_come_next(self):
        some = running_scene()
        for value in NO_MODES:
            for call in ("lock", "change"):
                self.request(some, call, 2, "y", value, "BadMode", "value", value)
            self.refused(some, "blockers", (("x", value), {"asker": 100}), "BadMode", "value", value)
            self.refused(some, "blockers", ((), {"mode": value, "name": "x"}), "BadMode", "value", value)

    def test_modes_that_no_change_has(self):
        some = running_scene()
        for mode in ("hold", "keep"):
            self.request(some, "change", 2, "y", mode, "BadMode", "value", mode)
            self.request(some, "change", 1, "x", mode, "BadMode", "value", mode)

    def test_the_way_comes_last(self):
        some = running_scene()
        for call in ("lock", "change"):
            self.request(some, call, 1, "x", "replace", "Blocked", "numbers", (2, 3, 4))
            self.request(some, call, 1, "x", "change", "Blocked", "numbers", (2, 3))
            self.request(some, call, 2, "x", "change", "Blocked", "numbers", (3,))
            self.request(some, call, 3, "y", "change", "Blocked", "numbers", (6,))
        self.request(some, "lock", 1, "y", "hold", "Blocked", "numbers", (6,))

    def test_askers_that_are_no_transactions(self):
        for some in (scene(), running_scene()):
            for value in UNKNOWN:
                if value is not None:
                    self.refused(some, "blockers", (("x", "hold"), {"asker": value}), "UnknownTransaction", "value", value)

    def test_the_asker_is_passed_by_name_only(self):
        self.assertRaises(TypeError, running_scene().blockers, "x", "hold", 1)

    def test_a_refused_request_takes_no_number(self):
        some = running_scene()
        was, entries = some.operations, some.entries()
        for call, *arguments in (("lock", 1, "x", "replace"), ("change", 1, "x", "hold"), ("lock", 1, "q", "hold")):
            self.assertRaises(errors.MarkError, getattr(some, call), *arguments)
        some.lock(1, "x", "keep")
        some.release(2)
        self.assertEqual((some.operations, some.joined_at(9)), (was + 2, was + 2))
        self.assertEqual(some.entries(), entries + [(1, "x", "locks", "keep")])


if __name__ == "__main__":
    unittest.main()
