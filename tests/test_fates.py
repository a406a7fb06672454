"""Points 4 and 5: transactions, parts, and how they end, in ordinary sequences."""

import unittest

from rowmarks.errors import TooMany
from rowmarks.fates import Fates
from pictures import one_part, picture


def done(*steps):
    """The Fates behind some steps: a name of a method and perhaps a number."""
    fates = Fates()
    for name, *numbers in steps:
        getattr(fates, name)(*numbers)
    return fates


class Beginning(unittest.TestCase):
    def test_without_transactions(self):
        fates = Fates()
        self.assertEqual((fates.operations, fates.moment(), fates.running()), (0, 0, []))

    def test_transactions_are_numbered_as_they_begin(self):
        fates = Fates()
        self.assertEqual([fates.begin() for _ in range(8)], [1, 2, 3, 4, 5, 6, 7, 8])
        self.assertEqual(fates.running(), [1, 2, 3, 4, 5, 6, 7, 8])
        self.assertEqual([fates.parts(number) for number in range(1, 9)], [[part] for part in range(1, 9)])

    def test_a_number_is_not_given_again(self):
        fates = done(("begin",), ("begin",), ("abort", 1), ("commit", 2))
        self.assertEqual((fates.begin(), fates.parts(3)), (3, [3]))

    def test_a_beginning_opens_the_first_part(self):
        fates = done(("begin",))
        self.assertEqual((fates.state(1), fates.parts(1), fates.operations), ("running", [1], 1))
        self.assertEqual(one_part(fates, 1), (1, None, 1, 1, "open", None, None))

    def test_parts_are_numbered_over_all_transactions(self):
        fates = Fates()
        told = [fates.begin(), fates.save(1), fates.begin(), fates.save(2), fates.save(1), fates.save(2)]
        self.assertEqual(told, [1, 2, 2, 4, 5, 6])
        self.assertEqual((fates.parts(1), fates.parts(2)), ([1, 2, 5], [3, 4, 6]))
        self.assertEqual([fates.transaction(part) for part in range(1, 7)], [1, 1, 2, 2, 1, 2])
        self.assertEqual([fates.around(part) for part in range(1, 7)], [None, 1, None, 3, 2, 4])

    def test_operations_without_a_told_result_return_none(self):
        fates = done(("begin",), ("save", 1), ("save", 1), ("begin",), ("begin",))
        told = [fates.release(1), fates.back(1), fates.prepare(1), fates.commit(1), fates.abort(2), fates.crash()]
        self.assertEqual(told, [None] * 6)
        self.assertEqual(fates.operations, 11)


class Savepoints(unittest.TestCase):
    def test_a_release_joins_to_the_part_around(self):
        fates = done(("begin",), ("save", 1), ("release", 1))
        self.assertEqual(fates.parts(1), [1])
        self.assertEqual(one_part(fates, 2), (1, 1, 1, 1, "open", 3, None))
        self.assertEqual(one_part(fates, 1), (1, None, 1, 1, "open", None, None))

    def test_going_back_ends_the_innermost_part_alone(self):
        fates = done(("begin",), ("save", 1), ("save", 1), ("back", 1))
        self.assertEqual(fates.parts(1), [1, 2])
        self.assertEqual(one_part(fates, 3), (1, 2, 3, None, "rolled back", None, 4))
        self.assertEqual(one_part(fates, 2), (1, 1, 2, 2, "open", None, None))
        self.assertEqual(fates.state(1), "running")

    def test_joined_parts_share_a_later_rollback(self):
        fates = done(("begin",), ("save", 1), ("save", 1), ("save", 1), ("release", 1), ("release", 1))
        self.assertEqual([fates.root(part) for part in (1, 2, 3, 4)], [1, 2, 2, 2])
        self.assertEqual([fates.joined_at(part) for part in (1, 2, 3, 4)], [None, None, 6, 5])
        fates.back(1)
        self.assertEqual([fates.fate(part) for part in (1, 2, 3, 4)], ["open"] + ["rolled back"] * 3)
        self.assertEqual([fates.ended_at(part) for part in (1, 2, 3, 4)], [None, 7, 7, 7])
        self.assertEqual([fates.owner(part) for part in (1, 2, 3, 4)], [1, None, None, None])
        self.assertEqual([fates.root(part) for part in (1, 2, 3, 4)], [1, 2, 2, 2])
        self.assertEqual([fates.joined_at(part) for part in (1, 2, 3, 4)], [None, None, 6, 5])

    def test_what_was_rolled_back_earlier_is_not_joined(self):
        fates = done(("begin",), ("save", 1), ("save", 1), ("back", 1), ("release", 1), ("commit", 1))
        self.assertEqual(one_part(fates, 3), (1, 2, 3, None, "rolled back", None, 4))
        self.assertEqual(one_part(fates, 2), (1, 1, 1, None, "committed", 5, 6))

    def test_a_part_joined_to_one_that_went_back_stays_there(self):
        fates = done(("begin",), ("save", 1), ("save", 1), ("release", 1), ("back", 1), ("abort", 1))
        self.assertEqual(one_part(fates, 3), (1, 2, 2, None, "rolled back", 4, 5))
        self.assertEqual(one_part(fates, 1), (1, None, 1, None, "rolled back", None, 6))

    def test_the_next_savepoint_is_inside_the_innermost_open_part(self):
        fates = done(("begin",), ("save", 1), ("release", 1), ("save", 1), ("back", 1), ("save", 1), ("save", 1))
        self.assertEqual([fates.around(part) for part in (2, 3, 4, 5)], [1, 1, 1, 4])
        self.assertEqual(fates.parts(1), [1, 4, 5])


class Ends(unittest.TestCase):
    def test_a_commit_commits_open_parts_too(self):
        fates = done(("begin",), ("save", 1), ("save", 1), ("back", 1), ("save", 1), ("commit", 1))
        self.assertEqual([fates.fate(part) for part in (1, 2, 3, 4)], ["committed"] * 2 + ["rolled back", "committed"])
        self.assertEqual([fates.ended_at(part) for part in (1, 2, 3, 4)], [6, 6, 4, 6])
        self.assertEqual([fates.root(part) for part in (1, 2, 3, 4)], [1, 2, 3, 4])
        self.assertEqual([fates.owner(part) for part in (1, 2, 3, 4)], [None] * 4)
        self.assertEqual((fates.state(1), fates.parts(1), fates.running(), fates.moment()), ("committed", [], [], 1))

    def test_an_abort_rolls_all_parts_back(self):
        fates = done(("begin",), ("save", 1), ("save", 1), ("back", 1), ("save", 1), ("release", 1), ("abort", 1))
        self.assertEqual([fates.fate(part) for part in (1, 2, 3, 4)], ["rolled back"] * 4)
        self.assertEqual([fates.ended_at(part) for part in (1, 2, 3, 4)], [7, 7, 4, 7])
        self.assertEqual((fates.state(1), fates.parts(1), fates.running(), fates.moment()), ("aborted", [], [], 0))

    def test_only_its_own_parts_end(self):
        fates = done(("begin",), ("begin",), ("save", 2), ("save", 1), ("commit", 1))
        self.assertEqual([fates.fate(part) for part in (1, 2, 3, 4)], ["committed", "open", "open", "committed"])
        self.assertEqual((fates.running(), fates.parts(2)), ([2], [2, 3]))

    def test_moments_count_commits_alone(self):
        fates = done(("begin",), ("begin",), ("begin",), ("begin",))
        told = []
        for step in (("commit", 2), ("abort", 1), ("commit", 3), ("crash",)):
            getattr(fates, step[0])(*step[1:])
            told.append((fates.moment(), fates.operations))
        self.assertEqual(told, [(1, 5), (1, 6), (2, 7), (2, 8)])

    def test_running_stays_ascending(self):
        fates = done(("begin",), ("begin",), ("begin",), ("commit", 2), ("begin",), ("abort", 1))
        self.assertEqual(fates.running(), [3, 4])
        self.assertEqual([fates.state(number) for number in (1, 2, 3, 4)], ["aborted", "committed", "running", "running"])


class PreparedAndCrash(unittest.TestCase):
    def test_a_prepared_transaction_runs(self):
        fates = done(("begin",), ("save", 1), ("release", 1), ("prepare", 1))
        self.assertEqual((fates.state(1), fates.running(), fates.parts(1)), ("prepared", [1], [1]))
        self.assertEqual(one_part(fates, 2), (1, 1, 1, 1, "open", 3, None))

    def test_a_prepared_transaction_commits_or_aborts(self):
        fates = done(("begin",), ("begin",), ("prepare", 1), ("prepare", 2), ("commit", 1), ("abort", 2))
        self.assertEqual((fates.state(1), fates.state(2), fates.running()), ("committed", "aborted", []))
        self.assertEqual((fates.fate(1), fates.fate(2)), ("committed", "rolled back"))

    def test_a_crash_spares_the_prepared(self):
        fates = done(("begin",), ("begin",), ("begin",), ("save", 1), ("save", 3), ("prepare", 2), ("crash",))
        self.assertEqual([fates.state(number) for number in (1, 2, 3)], ["aborted", "prepared", "aborted"])
        self.assertEqual([fates.fate(part) for part in range(1, 6)], ["rolled back", "open"] + ["rolled back"] * 3)
        self.assertEqual([fates.ended_at(part) for part in range(1, 6)], [7, None, 7, 7, 7])
        self.assertEqual((fates.running(), fates.parts(2), fates.moment(), fates.operations), ([2], [2], 0, 7))
        fates.commit(2)
        self.assertEqual((fates.fate(2), fates.ended_at(2), fates.moment()), ("committed", 8, 1))

    def test_a_crash_leaves_what_has_ended(self):
        fates = done(("begin",), ("save", 1), ("back", 1), ("begin",), ("commit", 2), ("crash",))
        self.assertEqual([fates.fate(part) for part in (1, 2, 3)], ["rolled back", "rolled back", "committed"])
        self.assertEqual([fates.ended_at(part) for part in (1, 2, 3)], [6, 3, 5])
        self.assertEqual((fates.state(1), fates.state(2)), ("aborted", "committed"))

    def test_a_crash_of_nothing_is_an_operation(self):
        fates = done(("crash",), ("crash",))
        self.assertEqual((fates.operations, fates.moment(), fates.running()), (2, 0, []))
        self.assertEqual(fates.begin(), 1)


class Bounds(unittest.TestCase):
    def full(self):
        return done(*[("begin",)] * 8)

    def refused(self, limit, call, *numbers):
        fates = call.__self__
        before = picture(fates)
        with self.assertRaises(TooMany) as caught:
            call(*numbers)
        self.assertEqual(caught.exception.limit, limit)
        self.assertEqual(picture(fates), before)

    def test_the_ninth_running_transaction(self):
        self.refused(8, self.full().begin)

    def test_room_again_behind_each_end(self):
        for step in (("commit", 1), ("abort", 8), ("crash",)):
            with self.subTest(step):
                fates = self.full()
                getattr(fates, step[0])(*step[1:])
                self.assertEqual(fates.begin(), 9)
                if step != ("crash",):
                    self.refused(8, fates.begin)

    def test_prepared_ones_count(self):
        fates = self.full()
        for number in range(1, 9):
            fates.prepare(number)
        fates.crash()
        self.refused(8, fates.begin)
        fates.abort(3)
        self.assertEqual((fates.begin(), fates.running()), (9, [1, 2, 4, 5, 6, 7, 8, 9]))

    def test_the_sixth_open_part(self):
        fates = done(("begin",), *[("save", 1)] * 4)
        self.assertEqual(fates.parts(1), [1, 2, 3, 4, 5])
        self.refused(5, fates.save, 1)

    def test_room_again_behind_a_release_and_going_back(self):
        for word in ("release", "back"):
            with self.subTest(word):
                fates = done(("begin",), *[("save", 1)] * 4, (word, 1))
                self.assertEqual((fates.save(1), fates.parts(1)), (6, [1, 2, 3, 4, 6]))
                self.refused(5, fates.save, 1)

    def test_each_transaction_has_its_own_five(self):
        fates = done(("begin",), ("begin",), *[("save", 1)] * 4, *[("save", 2)] * 4)
        self.assertEqual((len(fates.parts(1)), len(fates.parts(2))), (5, 5))

    def test_any_number_of_parts_may_have_been_opened(self):
        fates = done(("begin",))
        for _ in range(50):
            fates.save(1)
            fates.release(1)
        self.assertEqual([fates.root(part) for part in range(1, 52)], [1] * 51)
        self.assertEqual(fates.parts(1), [1])


if __name__ == "__main__":
    unittest.main()
