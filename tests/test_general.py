"""Point 2: what is new each time, objects side by side, arguments by name."""

import unittest

from rowmarks.fates import Fates
from rowmarks.locklists import LockList
from rowmarks.markings import fewest_sets, first_misfit, fits_history, marking, reasons, written
from rowmarks.papers import papers, readings
from rowmarks.rules import every_table, told, told_by, wrong_history
from rowmarks.sets import SetBook
from rowmarks.stores import Store
from rowmarks.telling import first_untold, tells_history, told_profile
from rowmarks.texts import read_rules
from pictures import answers, list_picture, picture, store_picture

GROWN = ([], [7], ["x", None])


def some():
    fates = Fates()
    for _ in range(3):
        fates.begin()
    fates.save(2)
    fates.save(2)
    return fates


class NewLists(unittest.TestCase):
    def check(self, fates, ask):
        before = picture(fates)
        for more in GROWN:
            told = ask()
            self.assertIsInstance(told, list)
            self.assertIsNot(told, ask())
            told.extend(more)
            told.reverse()
            self.assertEqual(picture(fates), before)
            told.clear()
            self.assertEqual(picture(fates), before)

    def test_running(self):
        fates = some()
        self.check(fates, fates.running)

    def test_parts(self):
        fates = some()
        for number in (1, 2, 3):
            self.check(fates, lambda: fates.parts(number))

    def test_a_told_list_does_not_follow_the_object(self):
        fates = some()
        parts, running = fates.parts(2), fates.running()
        fates.save(2)
        fates.begin()
        fates.commit(1)
        self.assertEqual((parts, running), ([2, 4, 5], [1, 2, 3]))

    def test_a_cleared_list_keeps_the_bounds(self):
        fates = some()
        fates.parts(2).clear()
        fates.running().clear()
        fates.back(2)
        self.assertEqual((fates.parts(2), fates.running()), ([2, 4], [1, 2, 3]))

    def test_lists_of_an_ended_transaction(self):
        fates = some()
        fates.commit(2)
        fates.parts(2).append(9)
        self.assertEqual(fates.parts(2), [])

    def test_lists_of_a_lock_list(self):
        locked = LockList(["x", "y"])
        for number in (1, 2, 3):
            locked.begin()
            locked.lock(number, "x", "hold")
        locked.save(1)
        locked.lock(1, "x", "hold")
        before = list_picture(locked)
        asks = (
            locked.entries,
            lambda: locked.blockers("x", "replace"),
            lambda: locked.blockers("x", "hold", asker=2),
            locked.running,
            lambda: locked.parts(1),
        )
        for ask in asks:
            self.check(locked, ask)
            told = ask()
            told[:] = [(1, "y", "locks", "replace")]
            self.assertEqual(list_picture(locked), before)

    def test_told_entries_do_not_follow_the_object(self):
        locked = LockList(["x"])
        locked.begin()
        locked.lock(1, "x", "hold")
        told = locked.entries()
        locked.lock(1, "x", "keep")
        self.assertEqual(told, [(1, "x", "locks", "hold")])

    def test_cleared_numbers_of_sets(self):
        book = SetBook()
        book.write([])
        book.taken().clear()
        self.assertEqual((book.taken(), book.write([]), len(book)), ([1], 2, 2))


class NewFromStores(unittest.TestCase):
    def scene(self):
        store = Store({"x": 1, "y": 2})
        for _ in range(3):
            store.begin()
        for number in (1, 2):
            store.lock(number, "x", "hold")
        store.change(3, "x", "change", 5)
        return store

    def test_lists_and_dicts_that_were_returned(self):
        store = self.scene()
        before = store_picture(store), answers(store)
        for ask in (
            store.sets, store.running, lambda: store.at(0), lambda: store.versions("x"), lambda: store.parts(1),
            lambda: store.blockers("x", "replace"),
        ):
            told, kept = ask(), ask()
            self.assertEqual(told, kept)
            self.assertIsNot(told, kept)
            told.clear()
            self.assertEqual((store_picture(store), answers(store)), before)

    def test_told_values_do_not_follow_the_object(self):
        store = self.scene()
        sets, values, versions, writes = store.sets(), store.at(0), store.versions("x"), store.writes()
        store.commit(3)
        store.clean()
        self.assertEqual((sorted(sets), values, versions), ([1, 2], {"x": 1, "y": 2}, [0, 1]))
        self.assertEqual((len(writes), store.writes()), (3, ()))
        self.assertEqual(sorted(store.sets()), [1])

    def test_kinds_of_what_is_told(self):
        store = self.scene()
        kinds = (
            (tuple, [store.names, store.profile(1, "x"), store.need("x", 0), store.writes(), store.version("x", 0)]),
            (tuple, list(store.sets().values()) + list(store.writes())),
            (list, [store.versions("x"), store.blockers("x", "hold")]),
            (dict, [store.sets(), store.at(0)]),
        )
        for kind, told in kinds:
            for value in told:
                self.assertIs(value.__class__, kind)
        self.assertEqual(list(store.sets()), sorted(store.sets()))

    def test_stores_side_by_side(self):
        one, other = self.scene(), self.scene()
        self.assertEqual(store_picture(one), store_picture(other))
        before = store_picture(other), answers(other)
        one.commit(3)
        one.clean()
        one.save(1)
        self.assertEqual((store_picture(other), answers(other)), before)
        full = store_picture(one), answers(one)
        other.crash()
        other.clean()
        self.assertEqual((store_picture(one), answers(one)), full)

    def test_papers_are_new_each_time(self):
        history = (("begin",), ("lock", 1, "x", "hold"))
        for ask in (lambda: papers({"x": 0}, history), lambda: readings(name="x", history=history, values={"x": 0})):
            told = ask()
            told.clear()
            self.assertEqual(len(ask()), 1)


class NewFromFunctions(unittest.TestCase):
    VALUES = {"x": 0, "y": 0}
    HISTORY = (
        ("begin",), ("begin",), ("lock", 1, "x", "hold"), ("lock", 2, "x", "hold"), ("save", 1), ("lock", 1, "y", "keep"),
        ("begin",), ("lock", 3, "x", "hold"), ("clean",),
    )

    def asks(self):
        rules = read_rules("base all each beside ended all unnamed")
        return (
            lambda: papers(self.VALUES, self.HISTORY),
            lambda: readings(self.VALUES, self.HISTORY, "x"),
            lambda: written(self.VALUES, self.HISTORY),
            lambda: fewest_sets(self.VALUES, self.HISTORY),
            lambda: reasons(self.VALUES, self.HISTORY),
            lambda: reasons(self.VALUES, self.HISTORY)[1],
            lambda: told(rules, self.VALUES, self.HISTORY, "x", "replace"),
            lambda: told_by(rules, self.VALUES, self.HISTORY, "x")[0],
            lambda: told_by(rules, self.VALUES, self.HISTORY, "x")[1],
        )

    def test_lists_that_were_returned_are_changed(self):
        for ask in self.asks():
            kept, given = ask(), ask()
            self.assertGreater(len(given), 0)
            self.assertIs(given.__class__, list)
            given.clear()
            self.assertEqual(ask(), kept)

    def test_what_was_asked_before_does_not_matter(self):
        asks = self.asks()
        first = [ask() for ask in asks]
        self.assertEqual([ask() for ask in reversed(asks)], first[::-1])
        wrong = [wrong_history(rules) for rules in every_table()]
        self.assertEqual([wrong_history(rules) for rules in every_table()], wrong)
        self.assertEqual([ask() for ask in asks], first)

    def test_what_is_handed_in_stays(self):
        value = marking(self.VALUES, self.HISTORY)
        for call in (first_misfit, fits_history, first_untold, tells_history):
            self.assertIn(call(value=value, history=self.HISTORY, values=self.VALUES), (None, True))
        self.assertEqual(told_profile(name="y", number=1, value=value, history=self.HISTORY, values=self.VALUES), (None, "keep"))
        self.assertEqual((list(self.VALUES.items()), value), ([("x", 0), ("y", 0)], marking(self.VALUES, self.HISTORY)))

    def test_two_tables_asked_by_turns(self):
        one, other = read_rules("base none base beside ended all unnamed"), read_rules("base all each beside ended all unnamed")
        history = (("begin",), ("begin",), ("lock", 1, "x", "hold"), ("change", 2, "x", "change", 5), ("commit", 2))
        for _ in range(2):
            self.assertEqual(told(name="x", mode="replace", history=history, values=self.VALUES, rules=one), [])
            self.assertEqual(told(other, self.VALUES, history, "x", "replace"), [1])


class SideBySide(unittest.TestCase):
    def test_two_objects_know_nothing_of_each_other(self):
        one, other = Fates(), Fates()
        one.begin()
        one.save(1)
        empty = picture(other)
        one.release(1)
        one.commit(1)
        self.assertEqual(picture(other), empty)
        full = picture(one)
        self.assertEqual((other.begin(), other.save(1)), (1, 2))
        other.back(1)
        self.assertEqual(picture(one), full)
        self.assertEqual((one.fate(2), other.fate(2)), ("committed", "rolled back"))

    def test_the_same_calls_give_equal_objects(self):
        self.assertEqual(picture(some()), picture(some()))

    def test_asking_changes_nothing(self):
        fates = some()
        self.assertEqual(picture(fates), picture(fates))


class ByName(unittest.TestCase):
    def test_numbers_by_name(self):
        fates = some()
        self.assertEqual(fates.save(number=1), 6)
        told = [fates.release(number=1), fates.back(number=2), fates.prepare(number=1), fates.commit(number=1)]
        self.assertEqual(told + [fates.abort(number=3)], [None] * 5)
        self.assertEqual((fates.state(number=3), fates.parts(number=2)), ("aborted", [2, 4]))

    def test_parts_by_name(self):
        fates = some()
        fates.release(2)
        fates.back(2)
        told = [fates.root(part=5), fates.owner(part=5), fates.fate(part=5), fates.transaction(part=5)]
        self.assertEqual(told, [4, None, "rolled back", 2])
        self.assertEqual([fates.around(part=5), fates.joined_at(part=5), fates.ended_at(part=5)], [4, 6, 7])


if __name__ == "__main__":
    unittest.main()
