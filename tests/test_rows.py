"""Point 6: values, versions and their numbers, makers, what stands, base, newest, changer, marks."""

import unittest

from rowmarks.errors import MarkError, UnknownVersion
from rowmarks.fates import Fates
from rowmarks.rows import Row
from oddities import NO_NUMBERS, Stranger, twin
from pictures import row_picture
from starts import fates_of
from walker import Walker

VALUES = (0, 1, -1, -5, 7, 10 ** 30 - 1, -(10 ** 30 - 1), 123456789012345678901234567890)
MEMBER = (1, "locks", "hold")


def made(*parts):
    """A row with a version of each of these parts."""
    row = Row(0)
    for at, part in enumerate(parts):
        row.make(10 * at + 10, part, "change")
    return row


class Making(unittest.TestCase):
    def test_a_row_of_one_version(self):
        for value in VALUES:
            for row in (Row(value), Row(value=value)):
                self.assertEqual(row_picture(row, Fates()), ([0], [(value, None, None)], [None], [0], 0, 0, None))

    def test_versions_are_numbered_as_they_are_made(self):
        row = Row(0)
        told = [row.make(5, 1, "change"), row.make(value=6, part=2, mode="replace"), row.make(6, 2, "change")]
        self.assertEqual((told, row.kept()), ([1, 2, 3], [0, 1, 2, 3]))
        right = [(0, None, None), (5, 1, "change"), (6, 2, "replace"), (6, 2, "change")]
        self.assertEqual([row[number] for number in row.kept()], right)
        self.assertEqual([row.mark(number) for number in row.kept()], [None] * 4)

    def test_the_same_value_makes_a_version(self):
        row = Row(3)
        self.assertEqual((row.make(3, 1, "change"), row.make(3, 1, "change"), row.kept()), (1, 2, [0, 1, 2]))

    def test_values_are_kept(self):
        for value in VALUES:
            row = Row(1)
            row.make(value, 1, "replace")
            self.assertEqual((row[0], row[1]), ((1, None, None), (value, 1, "replace")))

    def test_what_is_told_of_a_version_is_a_tuple(self):
        row = made(1)
        for number in (0, 1):
            self.assertIsInstance(row[number], tuple)

    def test_a_row_is_not_iterated_over(self):
        self.assertRaises(TypeError, list, made(1))


class Standing(unittest.TestCase):
    def told(self, row, fates, standing, base, newest, changer):
        self.assertEqual((row.standing(fates), row.base(fates), row.newest(fates)), (standing, base, newest))
        self.assertEqual((row.standing(fates=fates), row.base(fates=fates), row.newest(fates=fates)), (standing, base, newest))
        self.assertEqual((row.changer(fates), row.changer(fates=fates)), (changer, changer))

    def test_the_first_version_alone(self):
        self.told(Row(0), Fates(), [0], 0, 0, None)

    def test_versions_of_one_part(self):
        fates, row = fates_of(1), made(1, 1)
        self.told(row, fates, [0, 1, 2], 0, 2, 1)
        fates.prepare(1)
        self.told(row, fates, [0, 1, 2], 0, 2, 1)
        fates.commit(1)
        self.told(row, fates, [0, 1, 2], 2, 2, None)

    def test_versions_that_an_abort_or_a_crash_takes(self):
        for word, *numbers in (("abort", 1), ("crash",)):
            fates, row = fates_of(1), made(1, 1)
            getattr(fates, word)(*numbers)
            self.told(row, fates, [0], 0, 0, None)
            self.assertEqual((row.kept(), row[1]), ([0, 1, 2], (10, 1, "change")))

    def test_several_parts_of_one_transaction(self):
        fates, row = fates_of(3), made(1, 2, 3)
        self.told(row, fates, [0, 1, 2, 3], 0, 3, 1)
        fates.back(1)
        self.told(row, fates, [0, 1, 2], 0, 2, 1)
        fates.back(1)
        self.told(row, fates, [0, 1], 0, 1, 1)
        fates.commit(1)
        self.told(row, fates, [0, 1], 1, 1, None)

    def test_a_rolled_back_version_between_others(self):
        fates = fates_of(1)
        row = made(1)
        fates.save(1)
        row.make(20, 2, "change")
        fates.back(1)
        row.make(30, 1, "replace")
        self.told(row, fates, [0, 1, 3], 0, 3, 1)
        fates.commit(1)
        self.told(row, fates, [0, 1, 3], 3, 3, None)

    def test_released_parts(self):
        fates, row = fates_of(3), made(2, 3)
        fates.release(1)
        self.told(row, fates, [0, 1, 2], 0, 2, 1)
        fates.back(1)
        self.told(row, fates, [0], 0, 0, None)
        fates, row = fates_of(3), made(2, 3)
        fates.release(1)
        fates.release(1)
        self.told(row, fates, [0, 1, 2], 0, 2, 1)
        fates.commit(1)
        self.told(row, fates, [0, 1, 2], 2, 2, None)
        self.assertEqual(row[2], (20, 3, "change"))

    def test_one_transaction_behind_another(self):
        fates, row = fates_of(1, 1, 1), made(1)
        fates.commit(1)
        row.make(20, 2, "change")
        self.told(row, fates, [0, 1, 2], 1, 2, 2)
        fates.abort(2)
        self.told(row, fates, [0, 1], 1, 1, None)
        row.make(30, 3, "change")
        self.told(row, fates, [0, 1, 3], 1, 3, 3)
        fates.commit(3)
        self.told(row, fates, [0, 1, 3], 3, 3, None)

    def test_the_changer_is_a_transaction_and_no_part(self):
        fates, row = fates_of(3, 2), made(5)
        self.told(row, fates, [0, 1], 0, 1, 2)

    def test_fates_are_asked_and_not_kept(self):
        row, open_one, ended = made(1), fates_of(1), fates_of(1)
        ended.commit(1)
        for _ in range(2):
            self.told(row, open_one, [0, 1], 0, 1, 1)
            self.told(row, ended, [0, 1], 1, 1, None)


class Removing(unittest.TestCase):
    def test_numbers_go_on(self):
        row = made(1, 1, 1)
        self.assertEqual([row.remove(3), row.remove(1), row.kept()], [None, None, [0, 2]])
        self.assertEqual((row.make(7, 1, "replace"), row.kept(), row[4]), (4, [0, 2, 4], (7, 1, "replace")))
        row.remove(4)
        self.assertEqual((row.make(8, 1, "change"), row.kept()), (5, [0, 2, 5]))

    def test_by_name(self):
        row = made(1)
        row.remove(number=1)
        self.assertEqual(row.kept(), [0])

    def test_behind_the_base(self):
        fates, row = fates_of(1, 2), made(1, 1)
        fates.commit(1)
        for part in (2, 3):
            row.make(5, part, "change")
        fates.back(2)
        row.remove(0)
        row.remove(1)
        self.assertEqual(row_picture(row, fates)[3:], ([2, 3], 2, 3, 2))
        row.remove(4)
        self.assertEqual((row.kept(), row_picture(row, fates)[3:]), ([2, 3], ([2, 3], 2, 3, 2)))
        fates.commit(2)
        self.assertEqual(row_picture(row, fates)[3:], ([2, 3], 3, 3, None))
        row.remove(2)
        self.assertEqual((row.kept(), row_picture(row, fates)[3:]), ([3], ([3], 3, 3, None)))

    def test_the_newest_and_the_base_themselves(self):
        fates, row = fates_of(1, 1), made(1, 1, 2, 2)
        fates.commit(1)
        row.remove(4)
        self.assertEqual(row_picture(row, fates)[3:], ([0, 1, 2, 3], 2, 3, 2))
        row.remove(2)
        self.assertEqual(row_picture(row, fates)[3:], ([0, 1, 3], 1, 3, 2))
        row.remove(3)
        self.assertEqual(row_picture(row, fates)[3:], ([0, 1], 1, 1, None))

    def test_the_first_version_without_a_committed_one(self):
        fates, row = fates_of(1), made(1)
        row.remove(0)
        self.assertEqual(row_picture(row, fates)[3:], ([1], 0, 1, 1))

    def test_a_mark_goes_with_its_version(self):
        row = made(1, 1)
        row.set_mark(1, MEMBER)
        row.set_mark(2, 3)
        row.remove(1)
        self.assertEqual([row.mark(0), row.mark(2), row.make(1, 1, "change"), row.mark(3)], [None, 3, 3, None])


class Marks(unittest.TestCase):
    def test_set_and_set_anew(self):
        row = made(1)
        for mark in (MEMBER, 1, None, 10 ** 6, (10 ** 6, "changes", "replace"), 2, MEMBER):
            self.assertIsNone(row.set_mark(1, mark))
            self.assertEqual((row.mark(1), row.mark(0)), (mark, None))
        row.set_mark(number=0, mark=7)
        self.assertEqual((row.mark(number=0), row.mark(1)), (7, MEMBER))

    def test_marks_change_nothing_else(self):
        fates, row = fates_of(1), made(1)
        before = row_picture(row, fates)
        row.set_mark(1, MEMBER)
        self.assertEqual(row_picture(row, fates)[:2] + row_picture(row, fates)[3:], before[:2] + before[3:])

    def test_marks_stay_behind_later_versions_and_ends(self):
        fates, row = fates_of(1), made(1)
        row.set_mark(0, 4)
        row.set_mark(1, MEMBER)
        row.make(1, 1, "change")
        fates.abort(1)
        self.assertEqual([row.mark(number) for number in (0, 1, 2)], [4, MEMBER, None])


class Refused(unittest.TestCase):
    def refused(self, row, fates, value):
        asks = (row.__getitem__, row.mark, row.remove, lambda number: row.set_mark(number, MEMBER))
        for ask in asks:
            before = row_picture(row, fates)
            with self.subTest(repr(value)), self.assertRaises(UnknownVersion) as caught:
                ask(value)
            self.assertIs(caught.exception.value, value)
            self.assertIsInstance(caught.exception, MarkError)
            self.assertEqual(row_picture(row, fates), before)

    def test_values_of_all_kinds(self):
        fates = fates_of(1)
        for row, more in ((Row(5), (1, 2)), (made(1, 1), (3, 4, 100))):
            for value in more + tuple(value for value in NO_NUMBERS if value != 0 or value is False):
                kept = twin(value)
                self.refused(row, fates, value)
                self.assertEqual(value, kept)
            self.refused(row, fates, Stranger())
            self.refused(row, fates, -len(row.kept()))

    def test_versions_that_are_gone(self):
        fates, row = fates_of(1), made(1, 1, 1)
        for number in (2, 0, 3):
            row.remove(number)
            self.refused(row, fates, number)
        self.assertEqual(row.kept(), [1])

    def test_versions_that_are_not_yet_made(self):
        fates, row = fates_of(1), Row(0)
        for number in (1, 2, 3):
            self.refused(row, fates, number)
            self.assertEqual(row.make(9, 1, "change"), number)
            self.assertEqual(row[number], (9, 1, "change"))

    def test_bools_are_no_numbers(self):
        fates, row = fates_of(1), made(1)
        self.refused(row, fates, True)
        self.refused(row, fates, False)

    def test_versions_that_do_not_stand_are_there(self):
        fates, row = fates_of(1), made(1)
        fates.abort(1)
        row.set_mark(1, 2)
        self.assertEqual((row[1], row.mark(1), row.remove(1)), ((10, 1, "change"), 2, None))


class NewEachTime(unittest.TestCase):
    def test_lists(self):
        fates, row = fates_of(1), made(1, 1)
        before = row_picture(row, fates)
        for ask in (row.kept, lambda: row.standing(fates)):
            told = ask()
            self.assertIsInstance(told, list)
            told.append(9)
            told.reverse()
            self.assertEqual(row_picture(row, fates), before)
            ask().clear()
            self.assertEqual((row_picture(row, fates), ask()), (before, [0, 1, 2]))

    def test_two_rows(self):
        fates, one, other = fates_of(1), Row(1), Row(2)
        one.make(5, 1, "change")
        one.set_mark(0, MEMBER)
        self.assertEqual(row_picture(other, fates), ([0], [(2, None, None)], [None], [0], 0, 0, None))
        self.assertEqual(other.make(6, 1, "replace"), 1)
        other.remove(0)
        self.assertEqual((one.kept(), one[0], one[1], one.mark(0)), ([0, 1], (1, None, None), (5, 1, "change"), MEMBER))


class Compared(unittest.TestCase):
    """A row that transactions change one behind the other, told anew from a list of all versions."""

    def check(self, row, fates, gone, versions):
        fate = ["committed" if maker is None else fates.fate(maker) for maker in versions]
        left = [number for number in range(len(versions)) if number not in gone]
        standing = [number for number in left if fate[number] != "rolled back"]
        base = [number for number in standing if fate[number] == "committed"][-1]
        behind = {fates.transaction(versions[number]) for number in standing if number > base}
        self.assertLessEqual(len(behind), 1)
        told = (row.kept(), row.standing(fates), row.base(fates), row.newest(fates), row.changer(fates))
        self.assertEqual(told, (left, standing, base, standing[-1], min(behind, default=None)))

    def test_long_walks(self):
        for seed in range(20):
            fates, row, walker, gone, versions, number = Fates(), Row(0), Walker(seed), [], [None], None
            for _ in range(80):
                if number is None or fates.state(number) != "running":
                    number = fates.begin()
                word = walker.pick(("make",) * 6 + ("save", "release", "back") * 2 + ("remove", "commit", "abort", "crash"))
                open_parts = fates.parts(number)
                if word == "make":
                    self.assertEqual(row.make(0, open_parts[-1], "change"), len(versions))
                    versions.append(open_parts[-1])
                elif word == "remove":
                    some = [at for at in row.kept() if at < row.base(fates) or at not in row.standing(fates)]
                    gone += [row.remove(at) or at for at in some[:walker.pick(range(3))]]
                elif word == "crash":
                    fates.crash()
                elif word in ("commit", "abort") or (len(open_parts) < 5 if word == "save" else len(open_parts) > 1):
                    getattr(fates, word)(number)
                self.check(row, fates, gone, versions)
            self.assertTrue(gone)


if __name__ == "__main__":
    unittest.main()
