"""Point 9: what a member is, the canonical members of some members, and whether they fit."""

import unittest

from rowmarks.fates import Fates
from rowmarks.members import canonical, fits, is_member
from oddities import NO_NUMBERS, twin
from starts import fates_of

MODES = ("hold", "keep", "change", "replace")
NEAR_WORDS = ("lock", "Locks", "LOCKS", "locks ", " locks", "lockss", "locks\n", "change", "Changes", "changes ", "made", "")
NEAR_MODES = ("Hold", "HOLD", "hold ", " hold", "holds", "hol", "hold\n", "Change", "changes", "replace.", "locks", "")


def locks(part, mode):
    return part, "locks", mode


def changes(part, mode="change"):
    return part, "changes", mode


class IsMember(unittest.TestCase):
    def both(self, value, answer):
        with self.subTest(repr(value)):
            before = twin(value)
            self.assertIs(is_member(value), answer)
            self.assertIs(is_member(value=value), answer)
            self.assertEqual(value, before)

    def test_locks_have_any_mode(self):
        for mode in MODES:
            self.both((3, "locks", mode), True)

    def test_changes_have_two_modes(self):
        for mode in MODES:
            self.both((3, "changes", mode), mode in ("change", "replace"))

    def test_parts(self):
        for part in (1, 2, 999999, 10 ** 6):
            self.both((part, "locks", "hold"), True)
            self.both((part, "changes", "replace"), True)
        for part in (0, -1, -(10 ** 6), 10 ** 6 + 1, 10 ** 59, True, False, None, "1", "", (1,), [1], {1: 1}):
            self.both((part, "locks", "hold"), False)
            self.both((part, "changes", "change"), False)

    def test_words(self):
        for word in NEAR_WORDS + NO_NUMBERS + (1, ["locks"], ("locks",), {"locks": "hold"}):
            self.both((1, word, "hold"), False)
            self.both((1, word, "change"), False)

    def test_modes(self):
        for mode in NEAR_MODES + NO_NUMBERS + (1, 3, ["change"], ("change",), {"change": 3}):
            self.both((1, "locks", mode), False)
            self.both((1, "changes", mode), False)

    def test_items(self):
        for value in ((1, "locks"), (1, "locks", "hold", "hold"), ("locks", "hold"), (1,), ("locks", 1, "hold")):
            self.both(value, False)
        self.both((1, "hold", "locks"), False)
        self.both(((1, "locks", "hold"),), False)

    def test_no_tuples(self):
        for value in ([1, "locks", "hold"], {1: "locks", 2: "hold"}, "1 locks hold", {"part": 1}):
            self.both(value, False)
        for value in NO_NUMBERS + (1, 7):
            self.both(value, False)


class Canonical(unittest.TestCase):
    def told(self, members, fates, right):
        """Each sequence and each doubling of the members gives the same."""
        for some in (members, members[::-1], members * 2, members + members[:1]):
            for given in (list(some), tuple(some)):
                before = twin(given)
                with self.subTest(given):
                    self.assertEqual(canonical(given, fates), tuple(right))
                    self.assertIsInstance(canonical(given, fates), tuple)
                    self.assertEqual(canonical(members=given, fates=fates), tuple(right))
                    self.assertEqual(given, before)

    def test_none(self):
        self.assertEqual(canonical([], Fates()), ())
        self.assertEqual(canonical((), fates_of(2)), ())

    def test_one(self):
        for mode in MODES:
            self.told([locks(1, mode)], fates_of(1), [locks(1, mode)])
        for mode in ("change", "replace"):
            self.told([changes(1, mode)], fates_of(1), [changes(1, mode)])

    def test_ascending_by_part_word_and_mode(self):
        fates = fates_of(1, 1, 1)
        some = [locks(3, "hold"), locks(1, "keep"), changes(2, "replace"), changes(2, "change")]
        self.told(some, fates, [locks(1, "keep"), changes(2, "change"), changes(2, "replace"), locks(3, "hold")])

    def test_the_order_of_the_tuple_is_that_of_python(self):
        told = canonical([locks(1, "replace"), changes(1, "change"), locks(2, "change")], fates_of(1, 1))
        self.assertEqual(told, (changes(1, "change"), locks(1, "replace"), locks(2, "change")))
        self.assertEqual(list(told), sorted(told))

    def test_the_strongest_lock_of_a_part(self):
        fates = fates_of(1)
        for at, weak in enumerate(MODES):
            for strong in MODES[at:]:
                self.told([locks(1, weak), locks(1, strong)], fates, [locks(1, strong)])
        self.told([locks(1, mode) for mode in MODES], fates, [locks(1, "replace")])

    def test_locks_of_inner_parts(self):
        fates = fates_of(2)
        for at, outer in enumerate(MODES):
            for place, inner in enumerate(MODES):
                right = [locks(1, outer)] + [locks(2, inner)] * (place > at)
                self.told([locks(1, outer), locks(2, inner)], fates, right)

    def test_an_outer_lock_is_not_covered_by_an_inner_one(self):
        self.told([locks(3, "replace"), locks(1, "hold")], fates_of(3), [locks(1, "hold"), locks(3, "replace")])
        some = [locks(1, "hold"), locks(2, "keep"), locks(3, "change"), locks(4, "replace")]
        self.told(some, fates_of(5), some)
        self.told(some + [locks(5, "replace")], fates_of(5), some)

    def test_what_is_covered_covers_nothing(self):
        some = [locks(1, "keep"), locks(2, "hold"), locks(3, "keep"), locks(4, "change")]
        self.told(some, fates_of(4), [locks(1, "keep"), locks(4, "change")])

    def test_locks_of_other_transactions_are_not_covered(self):
        fates = fates_of(2, 2)
        some = [locks(1, "keep"), locks(2, "hold"), locks(3, "hold"), locks(4, "hold")]
        self.told(some, fates, [locks(1, "keep"), locks(3, "hold")])
        self.told([changes(1), locks(3, "hold")], fates, [changes(1), locks(3, "hold")])

    def test_a_change_covers_locks_of_its_part_and_inner_ones(self):
        fates = fates_of(3)
        for part in (2, 3):
            for mode in MODES:
                kept = [locks(part, mode)] * (mode == "replace")
                self.told([changes(2), locks(part, mode)], fates, [changes(2)] + kept)
                self.told([changes(2, "replace"), locks(part, mode)], fates, [changes(2, "replace")])

    def test_a_change_covers_no_lock_of_an_outer_part(self):
        some = [locks(1, "hold"), changes(2, "replace")]
        self.told(some, fates_of(2), some)

    def test_all_changes_stay(self):
        some = [changes(1), changes(1, "replace"), changes(2), changes(3)]
        self.told(some, fates_of(3), some)

    def test_a_change_that_a_lock_covers_stays(self):
        self.told([locks(1, "replace"), changes(2)], fates_of(2), [locks(1, "replace"), changes(2)])
        self.told([locks(1, "replace"), changes(1)], fates_of(1), [changes(1), locks(1, "replace")])

    def test_the_strongest_of_several_changes_covers(self):
        some = [changes(1), changes(1, "replace"), locks(1, "replace")]
        self.told(some, fates_of(1), [changes(1), changes(1, "replace")])
        some = [changes(1, "replace"), changes(2), locks(2, "replace")]
        self.told(some, fates_of(2), [changes(1, "replace"), changes(2)])

    def test_locks_of_parts_that_ended(self):
        some = [locks(1, "hold"), locks(2, "keep"), locks(3, "change")]
        for word in ("commit", "abort"):
            fates = fates_of(2, 1)
            getattr(fates, word)(1)
            self.told(some, fates, [locks(3, "change")])
        fates = fates_of(2, 1)
        fates.back(1)
        self.told(some, fates, [locks(1, "hold"), locks(3, "change")])
        fates.crash()
        self.told(some, fates, [])

    def test_changes_of_parts_that_ended(self):
        some = [changes(1), changes(2, "replace"), changes(3)]
        fates = fates_of(2, 1)
        fates.back(1)
        self.told(some, fates, [changes(1), changes(3)])
        fates.commit(1)
        self.told(some, fates, [changes(1), changes(3)])
        fates.abort(3 - 1)
        self.told(some, fates, [changes(1)])
        fates = fates_of(2, 1)
        fates.commit(1)
        fates.crash()
        self.told(some, fates, [changes(1), changes(2, "replace")])

    def test_a_committed_change_covers_nothing(self):
        fates = fates_of(1, 1)
        fates.commit(1)
        some = [changes(1, "replace"), locks(2, "hold"), locks(1, "replace")]
        self.told(some, fates, [changes(1, "replace"), locks(2, "hold")])

    def test_prepared_ones_are_open(self):
        fates = fates_of(1, 1)
        fates.prepare(1)
        fates.crash()
        self.told([locks(1, "hold"), locks(2, "hold"), changes(2)], fates, [locks(1, "hold")])

    def test_released_once(self):
        fates = fates_of(2)
        fates.release(1)
        self.told([locks(2, "hold")], fates, [locks(1, "hold")])
        self.told([changes(2)], fates, [changes(1)])
        self.told([locks(1, "hold"), locks(2, "keep")], fates, [locks(1, "keep")])
        self.told([locks(1, "hold"), changes(2)], fates, [changes(1)])
        self.told([changes(1), changes(2), locks(2, "change")], fates, [changes(1)])

    def test_released_several_times(self):
        fates = fates_of(4)
        fates.release(1)
        fates.release(1)
        some = [locks(4, "keep"), locks(3, "hold"), locks(2, "hold"), locks(1, "hold")]
        self.told(some, fates, [locks(1, "hold"), locks(2, "keep")])
        fates.release(1)
        self.told(some, fates, [locks(1, "keep")])
        fates.save(1)
        self.told(some + [locks(5, "keep")], fates, [locks(1, "keep")])
        self.told(some + [locks(5, "change")], fates, [locks(1, "keep"), locks(5, "change")])

    def test_released_and_then_rolled_back(self):
        fates = fates_of(3)
        fates.release(1)
        fates.back(1)
        self.told([locks(3, "hold"), changes(3), locks(1, "hold")], fates, [locks(1, "hold")])

    def test_released_and_then_committed(self):
        fates = fates_of(3)
        fates.release(1)
        fates.commit(1)
        self.told([changes(3), changes(2, "replace"), locks(1, "hold")], fates, [changes(2), changes(2, "replace")])

    def test_rolled_back_and_then_released(self):
        fates = fates_of(3)
        fates.back(1)
        fates.release(1)
        self.told([locks(3, "replace"), locks(2, "hold")], fates, [locks(1, "hold")])

    def test_the_same_list_behind_each_operation(self):
        fates = fates_of(3, 1)
        some = [locks(1, "hold"), changes(2), locks(3, "replace"), locks(4, "hold")]
        told = [canonical(some, fates)]
        for step in (("release", 1), ("back", 1), ("abort", 2), ("commit", 1)):
            getattr(fates, step[0])(*step[1:])
            told.append(canonical(some, fates))
        self.assertEqual(told, [
            (locks(1, "hold"), changes(2), locks(3, "replace"), locks(4, "hold")),
            (locks(1, "hold"), changes(2), locks(2, "replace"), locks(4, "hold")),
            (locks(1, "hold"), locks(4, "hold")),
            (locks(1, "hold"),),
            (),
        ])


class Fits(unittest.TestCase):
    def setUp(self):
        self.fates = fates_of(2, 1)
        self.need = (locks(1, "hold"), changes(2), locks(3, "keep"))

    def test_just_the_need(self):
        for some in (list(self.need), self.need, self.need[::-1], self.need + (locks(2, "hold"), self.need[0])):
            self.assertIs(fits(some, self.need, self.fates), True)
            self.assertIs(fits(members=some, need=self.need, fates=self.fates), True)

    def test_one_left_out(self):
        for member in self.need:
            self.assertIs(fits([one for one in self.need if one != member], self.need, self.fates), False)

    def test_one_more(self):
        for more in (locks(1, "keep"), changes(1), changes(3, "replace"), locks(2, "replace"), locks(3, "change")):
            self.assertIs(fits([*self.need, more], self.need, self.fates), False)

    def test_others(self):
        for some in ([], [locks(1, "hold")], [locks(1, "keep"), changes(2), locks(3, "keep")]):
            self.assertIs(fits(some, self.need, self.fates), False)

    def test_the_empty_need(self):
        self.assertIs(fits([], (), self.fates), True)
        self.assertIs(fits([locks(1, "hold")], (), self.fates), False)
        self.fates.crash()
        self.assertIs(fits([locks(1, "hold"), changes(2)], (), self.fates), True)

    def test_behind_a_release(self):
        self.fates.release(1)
        self.assertIs(fits(self.need, self.need, self.fates), False)
        self.assertIs(fits(self.need, (changes(1), locks(3, "keep")), self.fates), True)

    def test_nothing_is_changed(self):
        some, need = [*self.need], twin(self.need)
        fits(some, self.need, self.fates)
        self.assertEqual((some, self.need), ([*need], need))


if __name__ == "__main__":
    unittest.main()
