"""Points 6 and 10 to 14: stores, what they write, and what they tell."""

import unittest

from rowmarks.errors import UnknownVersion
from rowmarks.fates import Fates
from rowmarks.stores import Store
from oddities import NO_NUMBERS
from pictures import current, store_picture

LETTERS = "abcdefghijklmnopqrstuvwxyz"
HOLD = (1, "locks", "hold")


def begun(many, *names):
    store = Store({name: 0 for name in names or ("x",)})
    for _ in range(many):
        store.begin()
    return store


class Made(unittest.TestCase):
    def test_a_new_store(self):
        values = {"y": -5, "x": 10 ** 30 - 1, "abcdef": -(10 ** 30) + 1}
        store = Store(values)
        self.assertIsInstance(store, Fates)
        self.assertEqual(store.names, ("abcdef", "x", "y"))
        self.assertEqual((store.sets(), store.writes(), store.written(), store.horizon), ({}, (), 0, 0))
        self.assertEqual((store.operations, store.moment(), store.running()), (0, 0, []))
        self.assertEqual(list(store.at(0).items()), sorted(values.items()))
        for name in values:
            self.assertEqual((store.versions(name), store.version(name, 0)), ([0], (values[name], None, None)))
            self.assertEqual((store.mark(name, 0), store.need(name, 0)), (None, ()))
            self.assertEqual((store.base(name), store.newest(name), store.changer(name)), (0, 0, None))

    def test_one_row_and_twelve(self):
        for many in (1, 2, 12):
            names = list(LETTERS[:many])
            for keys in (names, names[::-1]):
                self.assertEqual(Store({name: 1 for name in keys}).names, tuple(names))
        self.assertEqual(Store(values={"z": 0}).names, ("z",))

    def test_the_dict_is_copied(self):
        values = {"x": 1, "y": 2}
        store = Store(values)
        before = store_picture(store)
        values["x"] = 7
        values["z"] = 3
        del values["y"]
        self.assertEqual(store_picture(store), before)
        self.assertEqual(store.at(0), {"x": 1, "y": 2})

    def test_a_dict_is_not_changed(self):
        values = {"y": 2, "x": 1}
        Store(values).begin()
        self.assertEqual(list(values.items()), [("y", 2), ("x", 1)])

    def test_values_at_both_ends(self):
        for value in (10 ** 30 - 1, -(10 ** 30) + 1, 0, -1):
            store = begun(1)
            store.change(1, "x", "change", value)
            self.assertEqual((store.version("x", 1), store.read(1, "x")), ((value, 1, "change"), value))


class Locks(unittest.TestCase):
    def test_one_lock_is_the_mark_itself(self):
        store = begun(1)
        store.lock(1, "x", "hold")
        self.assertEqual((store.mark("x", 0), store.sets(), store.written()), (HOLD, {}, 0))
        self.assertEqual(store.writes(), (("mark", "x", 0, HOLD),))
        self.assertEqual(store.need("x", 0), (HOLD,))

    def test_two_locks_make_a_set(self):
        store = begun(2)
        store.lock(2, "x", "keep")
        store.lock(1, "x", "hold")
        members = (HOLD, (2, "locks", "keep"))
        self.assertEqual(store.writes(), (("set", 1, members), ("mark", "x", 0, 1)))
        self.assertEqual((store.sets(), store.written(), store.need("x", 0)), ({1: members}, 1, members))

    def test_two_rows_name_one_set(self):
        store = begun(2, "x", "y")
        for number, name in ((1, "x"), (2, "x"), (2, "y"), (1, "y")):
            store.lock(number, name, "hold")
        self.assertEqual(store.writes(), (("mark", "y", 0, 1),))
        self.assertEqual((store.mark("x", 0), store.mark("y", 0), store.written()), (1, 1, 1))

    def test_the_least_fitting_set(self):
        store = begun(3, "x", "y", "z")
        for number, name in ((1, "x"), (2, "x"), (3, "x"), (1, "y"), (3, "y"), (2, "y")):
            store.lock(number, name, "hold")
        self.assertEqual(sorted(store.sets()), [1, 2, 3])
        store.abort(3)
        # Now the sets 1 and 2 tell the same for x and y.
        store.lock(1, "z", "hold")
        store.lock(2, "z", "hold")
        self.assertEqual((store.mark("x", 0), store.mark("z", 0), store.writes()), (2, 1, (("mark", "z", 0, 1),)))

    def test_a_set_that_fits_with_other_members(self):
        store = begun(2, "x", "y")
        store.save(1)
        store.lock(1, "x", "hold")
        store.lock(2, "x", "hold")
        self.assertEqual(store.sets(), {1: ((2, "locks", "hold"), (3, "locks", "hold"))})
        store.release(1)
        store.lock(2, "y", "hold")
        store.lock(1, "y", "hold")
        self.assertEqual((store.mark("y", 0), store.written()), (1, 1))
        self.assertEqual(store.need("y", 0), (HOLD, (2, "locks", "hold")))

    def test_a_stronger_lock(self):
        store = begun(1)
        store.lock(1, "x", "hold")
        store.lock(1, "x", "keep")
        self.assertEqual(store.writes(), (("mark", "x", 0, (1, "locks", "keep")),))
        store.save(1)
        store.lock(1, "x", "replace")
        self.assertEqual(store.mark("x", 0), 1)
        self.assertEqual(store.sets(), {1: ((1, "locks", "keep"), (2, "locks", "replace"))})
        store.back(1)
        self.assertEqual((store.writes(), store.mark("x", 0), store.need("x", 0)), ((), 1, ((1, "locks", "keep"),)))

    def test_idle_locks_write_nothing(self):
        store = begun(1)
        store.lock(1, "x", "keep")
        for mode in ("hold", "keep"):
            store.lock(1, "x", mode)
            self.assertEqual((store.writes(), store.mark("x", 0)), ((), (1, "locks", "keep")))
        store.save(1)
        store.lock(1, "x", "keep")
        self.assertEqual((store.writes(), store.operations), ((), 6))
        store.change(1, "x", "change", 5)
        store.lock(1, "x", "change")
        self.assertEqual((store.writes(), store.mark("x", 1)), ((), None))

    def test_locks_of_the_changer_stand_at_its_newest_version(self):
        store = begun(1)
        store.change(1, "x", "change", 1)
        store.change(1, "x", "change", 2)
        store.lock(1, "x", "replace")
        self.assertEqual(store.writes(), (("mark", "x", 2, (1, "locks", "replace")),))
        self.assertEqual([store.need("x", version) for version in (0, 1)], [((1, "changes", "change"),)] * 2)

    def test_locks_of_others_stand_at_all_versions(self):
        store = begun(3)
        store.change(1, "x", "change", 1)
        store.change(1, "x", "change", 2)
        store.lock(3, "x", "hold")
        lock = (3, "locks", "hold")
        told = (
            ("set", 1, ((1, "changes", "change"), lock)),
            ("mark", "x", 0, 1),
            ("mark", "x", 1, 1),
            ("mark", "x", 2, lock),
        )
        self.assertEqual((store.writes(), store.written()), (told, 1))
        store.lock(2, "x", "hold")
        self.assertEqual(store.need("x", 2), ((2, "locks", "hold"), lock))
        self.assertEqual([write[1] for write in store.writes() if write[0] == "set"], [2, 3])
        store.commit(1)
        self.assertEqual((store.base("x"), store.need("x", 2)), (2, ((2, "locks", "hold"), lock)))

    def test_locks_of_others_stand_only_where_versions_stand(self):
        store = begun(2)
        store.change(1, "x", "change", 1)
        store.save(1)
        store.change(1, "x", "change", 2)
        store.back(1)
        store.lock(2, "x", "hold")
        self.assertEqual([write[1:3] for write in store.writes() if write[0] == "mark"], [("x", 0), ("x", 1)])
        self.assertEqual(store.mark("x", 2), None)


class Changes(unittest.TestCase):
    def test_the_first_change(self):
        store = begun(1)
        store.change(1, "x", "replace", 7)
        self.assertEqual(store.writes(), (("mark", "x", 0, (1, "changes", "replace")),))
        self.assertEqual((store.versions("x"), store.version("x", 1)), ([0, 1], (7, 1, "replace")))
        self.assertEqual((store.mark("x", 1), store.need("x", 1), store.changer("x")), (None, (), 1))
        self.assertEqual((store.base("x"), store.newest("x")), (0, 1))

    def test_the_mark_of_the_new_version_comes_last(self):
        store = begun(2)
        store.lock(1, "x", "hold")
        store.change(2, "x", "change", 7)
        told = (("set", 1, (HOLD, (2, "changes", "change"))), ("mark", "x", 0, 1), ("mark", "x", 1, HOLD))
        self.assertEqual(store.writes(), told)

    def test_the_new_version_takes_no_locks_of_the_changer(self):
        store = begun(2)
        for number in (1, 2):
            store.lock(number, "x", "hold")
        store.change(2, "x", "change", 7)
        self.assertEqual(store.mark("x", 1), HOLD)
        self.assertEqual(store.need("x", 0), (HOLD, (2, "changes", "change")))

    def test_a_change_keeps_a_stronger_lock_beside_it(self):
        store = begun(1)
        store.lock(1, "x", "replace")
        store.change(1, "x", "change", 7)
        self.assertEqual(store.sets(), {1: ((1, "changes", "change"), (1, "locks", "replace"))})
        self.assertEqual((store.mark("x", 0), store.mark("x", 1)), (1, None))

    def test_the_new_version_finds_the_set_of_the_one_before(self):
        store = begun(4)
        for number in (1, 2):
            store.lock(number, "x", "hold")
        store.change(3, "x", "change", 1)
        both = (HOLD, (2, "locks", "hold"))
        told = (("set", 2, both + ((3, "changes", "change"),)), ("mark", "x", 0, 2), ("mark", "x", 1, 1))
        self.assertEqual((store.sets()[1], store.writes()), (both, told))
        store.change(3, "x", "change", 2)
        self.assertEqual(store.writes(), (("mark", "x", 1, 2), ("mark", "x", 2, 1)))

    def test_two_sets_in_one_operation(self):
        store = begun(4)
        store.change(3, "x", "change", 1)
        store.lock(1, "x", "hold")
        self.assertEqual(store.mark("x", 1), HOLD)
        store.lock(2, "x", "hold")
        sets = [write for write in store.writes() if write[0] == "set"]
        self.assertEqual([write[1] for write in sets], [2, 3])
        self.assertEqual([write[0] for write in store.writes()], ["set", "mark", "set", "mark"])
        self.assertEqual(store.written(), 3)

    def test_changes_in_inner_parts(self):
        store = begun(1)
        store.change(1, "x", "change", 1)
        store.save(1)
        store.change(1, "x", "change", 2)
        self.assertEqual((store.version("x", 2), store.mark("x", 1)), ((2, 2, "change"), (2, "changes", "change")))
        store.back(1)
        self.assertEqual((store.newest("x"), store.versions("x"), store.read(1, "x")), (1, [0, 1, 2], 1))
        self.assertEqual((store.mark("x", 1), store.need("x", 1)), ((2, "changes", "change"), ()))
        store.change(1, "x", "change", 3)
        self.assertEqual((store.versions("x"), store.writes()), ([0, 1, 2, 3], (("mark", "x", 1, (1, "changes", "change")),)))

    def test_changes_in_released_parts(self):
        store = begun(1)
        store.save(1)
        store.change(1, "x", "change", 1)
        store.release(1)
        self.assertEqual((store.need("x", 0), store.mark("x", 0)), (((1, "changes", "change"),), (2, "changes", "change")))
        self.assertEqual((store.version("x", 1), store.profile(1, "x")), ((1, 2, "change"), ("change",)))
        store.change(1, "x", "change", 1)
        self.assertEqual(store.writes(), (("mark", "x", 1, (1, "changes", "change")),))

    def test_what_is_set_back_is_changed_anew(self):
        store = begun(2)
        store.change(1, "x", "change", 1)
        store.abort(1)
        store.change(2, "x", "replace", 2)
        self.assertEqual(store.writes(), (("mark", "x", 0, (2, "changes", "replace")),))
        self.assertEqual((store.versions("x"), store.newest("x"), store.base("x")), ([0, 1, 2], 2, 0))

    def test_two_rows_name_one_set_of_a_change(self):
        store = begun(2, "x", "y")
        for name in ("x", "y"):
            store.lock(1, name, "hold")
            store.change(2, name, "change", 7)
        self.assertEqual(store.writes(), (("mark", "y", 0, 1), ("mark", "y", 1, HOLD)))
        self.assertEqual(store.written(), 1)


class WritesNothing(unittest.TestCase):
    def scene(self):
        store = begun(4)
        store.lock(1, "x", "hold")
        store.save(2)
        store.lock(2, "x", "hold")
        return store

    def test_all_but_locks_changes_and_cleanings(self):
        calls = (
            lambda store: store.begin(), lambda store: store.save(1), lambda store: store.release(2),
            lambda store: store.back(2), lambda store: store.prepare(1), lambda store: store.commit(1),
            lambda store: store.abort(1), lambda store: store.crash(), lambda store: store.move_horizon(0),
        )
        for call in calls:
            store = self.scene()
            self.assertNotEqual(store.writes(), ())
            sets, mark = store.sets(), store.mark("x", 0)
            call(store)
            self.assertEqual((store.writes(), store.sets(), store.mark("x", 0)), ((), sets, mark))
            self.assertEqual(store.operations, 8)

    def test_questions_leave_the_writes(self):
        store = self.scene()
        before = store.writes()
        store.profile(1, "x"), store.blockers("x", "hold"), store.read(1, "x"), store.need("x", 0), store.at(0)
        self.assertEqual((store.writes(), store.operations), (before, 7))

    def test_a_refused_operation_leaves_the_writes(self):
        store = self.scene()
        before = store.writes()
        for call in (lambda: store.lock(1, "x", "replace"), lambda: store.save(9), lambda: store.move_horizon(1)):
            self.assertRaises(ValueError, call)
            self.assertEqual((store.writes(), store.operations), (before, 7))


class Moments(unittest.TestCase):
    def test_each_commit_is_a_moment(self):
        store = begun(4)
        store.change(1, "x", "change", 5)
        self.assertEqual((store.moment(), store.at(0)), (0, {"x": 0}))
        store.commit(1)
        store.commit(2)
        store.change(3, "x", "change", 6)
        store.change(3, "x", "change", 7)
        store.commit(3)
        store.abort(4)
        self.assertEqual([store.at(moment)["x"] for moment in range(store.moment() + 1)], [0, 5, 5, 7])

    def test_the_horizon_moves_on(self):
        store = begun(3)
        for number in (1, 2, 3):
            store.commit(number)
        for moment in (0, 1, 1, 3):
            store.move_horizon(moment)
            self.assertEqual((store.horizon, store.at(moment)), (moment, {"x": 0}))
        self.assertEqual((store.operations, store.move_horizon(moment=3), store.at(moment=3)), (10, None, {"x": 0}))

    def test_values_are_in_the_order_of_the_names(self):
        store = Store({"b": 1, "a": 2, "c": 3})
        self.assertEqual(list(store.at(0)), ["a", "b", "c"])


class Cleaning(unittest.TestCase):
    def versions(self, horizon):
        """A row with versions of three commits, one of them with two changes, and one that went back."""
        store = begun(4)
        for number, values in ((1, (1, 2)), (2, (3,)), (3, (4, 5))):
            for value in values:
                store.change(number, "x", "change", value)
            store.commit(number)
        store.change(4, "x", "change", 6)
        store.abort(4)
        store.move_horizon(horizon)
        store.clean()
        return store

    def test_versions_that_were_the_base(self):
        for horizon, left in ((0, [0, 2, 3, 5]), (1, [2, 3, 5]), (2, [3, 5]), (3, [5])):
            store = self.versions(horizon)
            self.assertEqual(store.versions("x"), left)
            values = [store.at(moment)["x"] for moment in range(horizon, 4)]
            self.assertEqual(values, [0, 2, 3, 5][horizon:])
            self.assertEqual([store.mark("x", version) for version in left], [None] * len(left))
            # The mark of the base told a change that went back; the others stand ahead of it.
            self.assertEqual(store.writes(), (("mark", "x", 5, None),))

    def test_numbers_go_on(self):
        store = self.versions(3)
        number = store.begin()
        store.change(number, "x", "change", 9)
        self.assertEqual((store.versions("x"), store.newest("x")), ([5, 7], 7))

    def test_marks_from_the_base_on_are_made_plain(self):
        store = begun(3)
        store.save(1)
        for number in (1, 2, 3):
            store.lock(number, "x", "hold")
        store.release(1)
        store.abort(2)
        store.abort(3)
        self.assertEqual((store.mark("x", 0), store.need("x", 0)), (2, (HOLD,)))
        store.clean()
        self.assertEqual(store.writes(), (("mark", "x", 0, HOLD),))
        self.assertEqual((store.sets(), store.written()), ({}, 2))
        store.clean()
        self.assertEqual((store.writes(), store.operations), ((), 12))

    def test_a_single_member_takes_its_root(self):
        store = begun(1)
        store.save(1)
        store.lock(1, "x", "hold")
        store.release(1)
        self.assertEqual(store.mark("x", 0), (2, "locks", "hold"))
        store.clean()
        self.assertEqual((store.mark("x", 0), store.writes()), (HOLD, (("mark", "x", 0, HOLD),)))

    def test_the_least_of_the_sets_is_named_and_the_others_are_forgotten(self):
        store = begun(3)
        for number in (1, 2, 3):
            store.lock(number, "x", "hold")
        store.abort(3)
        self.assertEqual((store.mark("x", 0), sorted(store.sets())), (2, [1, 2]))
        store.clean()
        self.assertEqual((store.writes(), sorted(store.sets())), ((("mark", "x", 0, 1),), [1]))

    def test_a_number_is_given_again(self):
        store = begun(4)
        for number in (1, 2, 3):
            store.lock(number, "x", "hold")
        store.abort(1)
        store.clean()
        self.assertEqual((sorted(store.sets()), store.mark("x", 0)), ([2], 2))
        store.lock(4, "x", "hold")
        self.assertEqual((store.writes()[0][:2], store.mark("x", 0)), (("set", 1), 1))
        self.assertEqual((sorted(store.sets()), store.written()), ([1, 2], 3))

    def test_marks_ahead_of_the_base_are_not_among_the_writes(self):
        store = begun(2)
        store.lock(1, "x", "hold")
        store.change(2, "x", "change", 7)
        store.commit(2)
        store.clean()
        self.assertEqual((store.versions("x"), store.mark("x", 0), store.mark("x", 1)), ([0, 1], None, HOLD))
        self.assertEqual((store.writes(), store.sets()), ((), {}))

    def test_rows_in_the_order_of_their_names(self):
        store = begun(1, "y", "x", "ab")
        store.save(1)
        for name in ("y", "x", "ab"):
            store.lock(1, name, "hold")
        store.release(1)
        store.clean()
        self.assertEqual([write[1] for write in store.writes()], ["ab", "x", "y"])

    def test_versions_behind_the_base_stay(self):
        store = begun(2)
        store.change(1, "x", "change", 1)
        store.save(1)
        store.change(1, "x", "change", 2)
        store.back(1)
        store.change(1, "x", "change", 3)
        store.clean()
        self.assertEqual((store.versions("x"), store.read(1, "x"), store.read(2, "x")), ([0, 1, 3], 3, 0))
        self.assertEqual([store.mark("x", version) for version in (0, 1, 3)], [(1, "changes", "change")] * 2 + [None])


class Asked(unittest.TestCase):
    def scene(self):
        """A base that is not the first version, two versions behind it, one of which went back."""
        store = begun(3, "x", "y")
        store.change(1, "x", "change", 1)
        store.commit(1)
        store.change(2, "x", "change", 2)
        store.save(2)
        store.change(2, "x", "change", 3)
        store.back(2)
        return store

    def test_needs_are_asked_of_standing_versions_from_the_base_on(self):
        store = self.scene()
        self.assertEqual(current(store, "x"), [1, 2])
        self.assertEqual([store.need("x", 1), store.need("x", 2)], [((2, "changes", "change"),), ()])
        for version in (0, 3, 4, -1, "1", True, *NO_NUMBERS):
            with self.assertRaises(UnknownVersion) as caught:
                store.need("x", version)
            self.assertIs(caught.exception.value, version)

    def test_versions_that_are_left(self):
        store = self.scene()
        self.assertEqual(store.versions("x"), [0, 1, 2, 3])
        self.assertEqual(store.version("x", 3), (3, 4, "change"))
        self.assertEqual(store.mark(version=0, name="x"), (1, "changes", "change"))
        self.assertEqual((store.base("x"), store.newest("x"), store.changer("x")), (1, 2, 2))
        self.assertEqual((store.versions("y"), store.base("y"), store.newest("y"), store.changer("y")), ([0], 0, 0, None))
        store.clean()
        self.assertEqual(store.versions("x"), [0, 1, 2])
        self.assertRaises(UnknownVersion, store.version, "x", 3)

    def test_reading(self):
        store = self.scene()
        self.assertEqual((store.read(2, "x"), store.read(3, "x"), store.read(name="y", number=2)), (2, 1, 0))
        self.assertEqual(store.operations, 9)
        store.commit(2)
        self.assertEqual(store.read(3, "x"), 2)

    def test_profiles_of_a_store(self):
        store = self.scene()
        self.assertEqual((store.profile(2, "x"), store.profile(1, "x"), store.profile(3, "x")), (("change",), (), (None,)))
        self.assertEqual((store.blockers("x", "keep"), store.blockers("x", "keep", asker=2)), ([2], []))
        self.assertEqual(store.blockers("x", "hold"), [])


class Limits(unittest.TestCase):
    def test_eight_transactions_with_five_parts_on_twelve_rows(self):
        store = Store({name: 0 for name in LETTERS[:12]})
        for number in range(1, 9):
            store.begin()
            for _ in range(4):
                store.save(number)
        for name in LETTERS[:12]:
            for number in range(1, 9):
                store.lock(number, name, "hold")
        self.assertEqual(len(store.need("l", 0)), 8)
        self.assertEqual(store.blockers("l", "replace"), list(range(1, 9)))
        self.assertEqual((store.written(), store.mark("a", 0), store.mark("l", 0)), (7, 7, 7))
        store.crash()
        store.clean()
        self.assertEqual((store.sets(), store.mark("l", 0)), ({}, None))


if __name__ == "__main__":
    unittest.main()
