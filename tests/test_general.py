"""Point 2: what is new each time, objects side by side, arguments by name."""

import unittest

from rowmarks.fates import Fates
from rowmarks.locklists import LockList
from rowmarks.sets import SetBook
from pictures import list_picture, picture

GROWN = ([], [7], ["x", None])


def some():
    fates = Fates()
    for _ in range(3):
        fates.begin()
    fates.save(2)
    fates.save(2)
    return fates


class NewLists(unittest.TestCase):
    def check(self, fates, ask):
        before = picture(fates)
        for more in GROWN:
            told = ask()
            self.assertIsInstance(told, list)
            self.assertIsNot(told, ask())
            told.extend(more)
            told.reverse()
            self.assertEqual(picture(fates), before)
            told.clear()
            self.assertEqual(picture(fates), before)

    def test_running(self):
        fates = some()
        self.check(fates, fates.running)

    def test_parts(self):
        fates = some()
        for number in (1, 2, 3):
            self.check(fates, lambda: fates.parts(number))

    def test_a_told_list_does_not_follow_the_object(self):
        fates = some()
        parts, running = fates.parts(2), fates.running()
        fates.save(2)
        fates.begin()
        fates.commit(1)
        self.assertEqual((parts, running), ([2, 4, 5], [1, 2, 3]))

    def test_a_cleared_list_keeps_the_bounds(self):
        fates = some()
        fates.parts(2).clear()
        fates.running().clear()
        fates.back(2)
        self.assertEqual((fates.parts(2), fates.running()), ([2, 4], [1, 2, 3]))

    def test_lists_of_an_ended_transaction(self):
        fates = some()
        fates.commit(2)
        fates.parts(2).append(9)
        self.assertEqual(fates.parts(2), [])

    def test_lists_of_a_lock_list(self):
        locked = LockList(["x", "y"])
        for number in (1, 2, 3):
            locked.begin()
            locked.lock(number, "x", "hold")
        locked.save(1)
        locked.lock(1, "x", "hold")
        before = list_picture(locked)
        asks = (
            locked.entries,
            lambda: locked.blockers("x", "replace"),
            lambda: locked.blockers("x", "hold", asker=2),
            locked.running,
            lambda: locked.parts(1),
        )
        for ask in asks:
            self.check(locked, ask)
            told = ask()
            told[:] = [(1, "y", "locks", "replace")]
            self.assertEqual(list_picture(locked), before)

    def test_told_entries_do_not_follow_the_object(self):
        locked = LockList(["x"])
        locked.begin()
        locked.lock(1, "x", "hold")
        told = locked.entries()
        locked.lock(1, "x", "keep")
        self.assertEqual(told, [(1, "x", "locks", "hold")])

    def test_cleared_numbers_of_sets(self):
        book = SetBook()
        book.write([])
        book.taken().clear()
        self.assertEqual((book.taken(), book.write([]), len(book)), ([1], 2, 2))


class SideBySide(unittest.TestCase):
    def test_two_objects_know_nothing_of_each_other(self):
        one, other = Fates(), Fates()
        one.begin()
        one.save(1)
        empty = picture(other)
        one.release(1)
        one.commit(1)
        self.assertEqual(picture(other), empty)
        full = picture(one)
        self.assertEqual((other.begin(), other.save(1)), (1, 2))
        other.back(1)
        self.assertEqual(picture(one), full)
        self.assertEqual((one.fate(2), other.fate(2)), ("committed", "rolled back"))

    def test_the_same_calls_give_equal_objects(self):
        self.assertEqual(picture(some()), picture(some()))

    def test_asking_changes_nothing(self):
        fates = some()
        self.assertEqual(picture(fates), picture(fates))


class ByName(unittest.TestCase):
    def test_numbers_by_name(self):
        fates = some()
        self.assertEqual(fates.save(number=1), 6)
        told = [fates.release(number=1), fates.back(number=2), fates.prepare(number=1), fates.commit(number=1)]
        self.assertEqual(told + [fates.abort(number=3)], [None] * 5)
        self.assertEqual((fates.state(number=3), fates.parts(number=2)), ("aborted", [2, 4]))

    def test_parts_by_name(self):
        fates = some()
        fates.release(2)
        fates.back(2)
        told = [fates.root(part=5), fates.owner(part=5), fates.fate(part=5), fates.transaction(part=5)]
        self.assertEqual(told, [4, None, "rolled back", 2])
        self.assertEqual([fates.around(part=5), fates.joined_at(part=5), fates.ended_at(part=5)], [4, 6, 7])


if __name__ == "__main__":
    unittest.main()
