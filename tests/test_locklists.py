"""Points 7 and 8: entries, profiles, who must wait, and idle locks, in ordinary sequences."""

import unittest

from rowmarks.errors import Blocked
from rowmarks.fates import Fates
from rowmarks.locklists import LockList

MODES = ("hold", "keep", "change", "replace")
CLASHES = {
    "hold": ("replace",),
    "keep": ("change", "replace"),
    "change": ("keep", "change", "replace"),
    "replace": MODES,
}


def done(*steps, names=("x", "y")):
    """The LockList behind some steps: a name of a method and its arguments."""
    some = LockList(names)
    for word, *arguments in steps:
        getattr(some, word)(*arguments)
    return some


def begun(many, *steps):
    return done(*[("begin",)] * many, *steps)


class Making(unittest.TestCase):
    def test_a_lock_list_is_a_fates(self):
        self.assertTrue(issubclass(LockList, Fates))
        self.assertIsInstance(LockList(["x"]), Fates)

    def test_without_transactions(self):
        some = LockList(["x"])
        self.assertEqual((some.operations, some.moment(), some.running(), some.entries()), (0, 0, [], []))
        self.assertEqual([some.blockers("x", mode) for mode in MODES], [[]] * 4)

    def test_names_ascend(self):
        for names in (["b", "ab", "a"], ("ab", "b", "a")):
            self.assertEqual(LockList(names).names, ("a", "ab", "b"))
            self.assertIsInstance(LockList(names).names, tuple)

    def test_one_and_twelve_names(self):
        twelve = ["z", "zzzzzz", "abcdef", "a", "b", "c", "d", "e", "f", "g", "h", "i"]
        for names in (["x"], ("zzzzzz",), twelve, tuple(twelve)):
            some = LockList(names=names)
            self.assertEqual(some.names, tuple(sorted(names)))
            some.begin()
            for name in names:
                some.lock(1, name, "hold")
                self.assertEqual(some.profile(1, name), ("hold",))

    def test_the_list_is_changed_behind_the_call(self):
        names = ["y", "x"]
        some = LockList(names)
        self.assertEqual(names, ["y", "x"])
        names.append("z")
        names[0] = "a"
        self.assertEqual(some.names, ("x", "y"))


class Entries(unittest.TestCase):
    def test_in_order_with_the_innermost_open_part(self):
        some = begun(
            2, ("lock", 1, "x", "hold"), ("save", 2), ("change", 2, "y", "replace"), ("save", 1), ("change", 1, "x", "change"),
            ("release", 1), ("lock", 1, "x", "replace"), ("back", 2), ("lock", 2, "y", "keep"),
        )
        right = [
            (1, "x", "locks", "hold"),
            (3, "y", "changes", "replace"),
            (4, "x", "changes", "change"),
            (1, "x", "locks", "replace"),
            (2, "y", "locks", "keep"),
        ]
        self.assertEqual(some.entries(), right)
        some.crash()
        self.assertEqual(some.entries(), right)

    def test_idle_ones_are_entries(self):
        some = begun(1, ("lock", 1, "x", "keep"), ("lock", 1, "x", "keep"), ("lock", 1, "x", "hold"))
        self.assertEqual([entry[3] for entry in some.entries()], ["keep", "keep", "hold"])

    def test_all_are_operations_and_return_none(self):
        some = begun(1)
        told = [some.lock(1, "x", "hold"), some.lock(1, "x", "hold"), some.change(1, "x", "change")]
        self.assertEqual((told, some.operations), ([None] * 3, 4))
        some.save(1)
        some.release(1)
        self.assertEqual((some.joined_at(2), some.operations), (6, 6))

    def test_by_name(self):
        some = begun(1)
        some.lock(number=1, name="x", mode="keep")
        some.change(mode="replace", name="x", number=1)
        self.assertEqual(some.entries(), [(1, "x", "locks", "keep"), (1, "x", "changes", "replace")])
        some.lock(1, "x", "hold")
        self.assertEqual((some.is_idle(entry=2), some.covers(entry=2)), (True, (0, 1)))
        self.assertEqual((some.profile(number=1, name="x"), some.profile(name="y", number=1)), (("replace",), (None,)))
        self.assertEqual(some.blockers(name="x", mode="hold", asker=None), [1])
        self.assertEqual(some.blockers(asker=1, mode="hold", name="x"), [])


class Profiles(unittest.TestCase):
    def test_none_held(self):
        some = begun(2, ("save", 2), ("save", 2))
        self.assertEqual((some.profile(1, "x"), some.profile(2, "x")), ((None,), (None, None, None)))

    def test_locks_and_changes_in_several_parts(self):
        some = begun(
            1, ("save", 1), ("lock", 1, "x", "hold"), ("save", 1), ("save", 1), ("change", 1, "x", "change"), ("save", 1),
            ("lock", 1, "x", "replace"),
        )
        self.assertEqual(some.profile(1, "x"), (None, "hold", "hold", "change", "replace"))
        self.assertEqual(some.profile(1, "y"), (None,) * 5)

    def test_a_weaker_one_does_not_weaken(self):
        some = begun(1, ("lock", 1, "x", "replace"), ("lock", 1, "x", "hold"), ("save", 1), ("change", 1, "x", "change"))
        self.assertEqual(some.profile(1, "x"), ("replace", "replace"))

    def test_an_outer_part_behind_an_inner_one(self):
        some = begun(1, ("save", 1), ("lock", 1, "x", "hold"), ("release", 1))
        self.assertEqual(some.profile(1, "x"), ("hold",))
        some.save(1)
        self.assertEqual(some.profile(1, "x"), ("hold", "hold"))

    def test_behind_savepoint_release_and_rollback(self):
        some = begun(1, ("lock", 1, "x", "hold"), ("save", 1), ("lock", 1, "x", "keep"), ("save", 1), ("change", 1, "x", "change"))
        told = [some.profile(1, "x")]
        for word in ("release", "save", "back", "back"):
            getattr(some, word)(1)
            told.append(some.profile(1, "x"))
        self.assertEqual(told, [
            ("hold", "keep", "change"), ("hold", "change"), ("hold", "change", "change"), ("hold", "change"), ("hold",)
        ])

    def test_a_released_part_that_goes_back_with_the_one_around(self):
        some = begun(1, ("save", 1), ("save", 1), ("lock", 1, "x", "replace"), ("release", 1), ("back", 1))
        self.assertEqual((some.profile(1, "x"), some.blockers("x", "replace")), ((None,), []))

    def test_behind_a_prepare_and_a_crash(self):
        some = begun(2, ("lock", 1, "x", "keep"), ("lock", 2, "x", "keep"), ("prepare", 1))
        self.assertEqual(some.profile(1, "x"), ("keep",))
        some.crash()
        self.assertEqual((some.profile(1, "x"), some.profile(2, "x")), (("keep",), ()))
        self.assertEqual(some.blockers("x", "change"), [1])

    def test_of_one_that_has_ended(self):
        for word in ("commit", "abort"):
            some = begun(1, ("lock", 1, "x", "hold"), ("save", 1), ("change", 1, "y", "change"), (word, 1))
            self.assertEqual((some.profile(1, "x"), some.profile(1, "y")), ((), ()))
            self.assertEqual((some.blockers("x", "replace"), some.blockers("y", "hold")), ([], []))

    def test_of_several_transactions(self):
        some = begun(3, ("lock", 1, "x", "hold"), ("lock", 2, "x", "keep"), ("lock", 3, "y", "replace"), ("save", 2))
        told = [[some.profile(number, name) for number in (1, 2, 3)] for name in ("x", "y")]
        self.assertEqual(told, [[("hold",), ("keep", "keep"), (None,)], [(None,), (None, None), ("replace",)]])


class Waiting(unittest.TestCase):
    def test_each_pair_of_modes(self):
        for held in MODES:
            for mode in MODES:
                for word in ("lock", "change"):
                    if word == "change" and held not in ("change", "replace"):
                        continue
                    some = begun(2, (word, 1, "x", held))
                    right = [1] if mode in CLASHES[held] else []
                    with self.subTest(held=held, mode=mode, word=word):
                        self.assertEqual(some.blockers("x", mode), right)
                        self.assertEqual(some.blockers("x", mode, asker=2), right)
                        self.assertEqual(some.blockers("x", mode, asker=1), [])
                        self.assertEqual(some.blockers("y", mode), [])
                        self.requests(some, mode, right)

    def requests(self, some, mode, right):
        for word in ("lock", "change"):
            if word == "change" and mode not in ("change", "replace"):
                continue
            was = (some.entries(), some.operations)
            if right:
                with self.assertRaises(Blocked) as caught:
                    getattr(some, word)(2, "x", mode)
                self.assertEqual(caught.exception.numbers, (1,))
                self.assertEqual((some.entries(), some.operations), was)
            else:
                getattr(some, word)(2, "x", mode)
                self.assertEqual(some.profile(2, "x"), (mode,))

    def test_the_last_entry_of_the_profile_counts(self):
        some = begun(2, ("lock", 1, "x", "hold"), ("save", 1), ("lock", 1, "x", "keep"))
        self.assertEqual((some.blockers("x", "change"), some.blockers("x", "keep")), ([1], []))
        some.back(1)
        self.assertEqual((some.blockers("x", "change"), some.blockers("x", "replace")), ([], [1]))

    def test_a_weaker_lock_of_an_inner_part(self):
        some = begun(2, ("lock", 1, "x", "keep"), ("save", 1), ("lock", 1, "x", "hold"))
        self.assertEqual(some.blockers("x", "change"), [1])

    def test_several_in_the_way(self):
        some = begun(
            5, ("lock", 4, "x", "hold"), ("lock", 2, "x", "keep"), ("lock", 1, "x", "hold"), ("lock", 5, "x", "keep"),
            ("save", 3), ("lock", 3, "x", "hold"),
        )
        self.assertEqual(some.blockers("x", "replace"), [1, 2, 3, 4, 5])
        self.assertEqual(some.blockers("x", "change"), [2, 5])
        self.assertEqual(some.blockers("x", "change", asker=2), [5])
        self.assertEqual(some.blockers("x", "replace", asker=3), [1, 2, 4, 5])
        for word, mode, numbers in (("lock", "replace", (1, 2, 4, 5)), ("change", "change", (2, 5))):
            with self.assertRaises(Blocked) as caught:
                getattr(some, word)(3, "x", mode)
            self.assertEqual(caught.exception.numbers, numbers)
            self.assertIsInstance(caught.exception.numbers, tuple)
        self.assertEqual(some.profile(3, "x"), (None, "hold"))

    def test_a_prepared_one_is_in_the_way(self):
        some = begun(2, ("lock", 1, "x", "hold"), ("prepare", 1))
        self.assertEqual(some.blockers("x", "replace", asker=2), [1])

    def test_ended_ones_are_not(self):
        for word in ("commit", "abort"):
            some = begun(3, ("lock", 1, "x", "hold"), ("lock", 3, "x", "hold"), (word, 1))
            self.assertEqual(some.blockers("x", "replace"), [3])
            some.crash()
            self.assertEqual(some.blockers("x", "replace"), [])

    def test_for_one_that_has_ended(self):
        some = begun(3, ("lock", 1, "x", "hold"), ("lock", 2, "x", "hold"), ("commit", 1))
        self.assertEqual(some.blockers("x", "replace", asker=1), [2])
        some.abort(2)
        self.assertEqual([some.blockers("x", "replace", asker=number) for number in (1, 2, 3)], [[], [], []])

    def test_for_a_prepared_one(self):
        some = begun(2, ("lock", 1, "x", "hold"), ("lock", 2, "x", "hold"), ("prepare", 1))
        self.assertEqual(some.blockers("x", "replace", asker=1), [2])

    def test_eight_at_once(self):
        some = begun(8, *[("lock", number, "x", "keep") for number in range(8, 0, -1)])
        self.assertEqual(some.blockers("x", "replace"), [1, 2, 3, 4, 5, 6, 7, 8])


class IdleLocks(unittest.TestCase):
    def test_each_pair_of_modes(self):
        for first in MODES:
            for second in MODES:
                idle = MODES.index(second) <= MODES.index(first)
                with self.subTest(first=first, second=second):
                    some = begun(1, ("lock", 1, "x", first), ("lock", 1, "x", second))
                    self.assertEqual([some.is_idle(0), some.is_idle(1)], [False, idle])
                    self.assertIs(some.is_idle(1), idle)
                    self.assertEqual([some.covers(0), some.covers(1)], [(), (0,) if idle else ()])

    def test_a_change_is_never_idle(self):
        some = begun(1, ("lock", 1, "x", "replace"), ("change", 1, "x", "change"), ("change", 1, "x", "replace"))
        self.assertEqual([(some.is_idle(at), some.covers(at)) for at in range(3)], [(False, ())] * 3)

    def test_a_lock_behind_a_change(self):
        some = begun(1, ("change", 1, "x", "change"), ("lock", 1, "x", "change"), ("lock", 1, "x", "replace"))
        self.assertEqual([some.covers(at) for at in range(3)], [(), (0,), ()])

    def test_all_that_cover_are_told(self):
        some = begun(
            2, ("lock", 1, "x", "hold"), ("lock", 2, "x", "hold"), ("lock", 1, "y", "replace"), ("save", 1),
            ("change", 1, "x", "change"), ("lock", 1, "x", "keep"), ("save", 1), ("lock", 1, "x", "keep"),
            ("lock", 1, "x", "change"), ("lock", 1, "x", "hold"),
        )
        self.assertEqual([some.covers(at) for at in range(8)], [(), (), (), (), (3,), (3, 4), (3,), (0, 3, 4, 5, 6)])

    def test_parts_that_went_back_cover_nothing(self):
        some = begun(1, ("lock", 1, "x", "hold"), ("save", 1), ("lock", 1, "x", "keep"), ("back", 1), ("lock", 1, "x", "keep"))
        self.assertEqual([some.covers(at) for at in range(3)], [(), (), ()])
        some.lock(1, "x", "hold")
        self.assertEqual((some.is_idle(3), some.covers(3)), (True, (0, 2)))

    def test_released_parts_cover(self):
        some = begun(1, ("save", 1), ("save", 1), ("lock", 1, "x", "keep"), ("release", 1), ("lock", 1, "x", "keep"))
        some.release(1)
        some.lock(1, "x", "hold")
        self.assertEqual([some.covers(at) for at in range(3)], [(), (0,), (0, 1)])

    def test_nothing_of_it_changes_later(self):
        some = begun(
            1, ("save", 1), ("lock", 1, "x", "keep"), ("lock", 1, "x", "hold"), ("save", 1), ("lock", 1, "x", "change"),
            ("lock", 1, "x", "keep"), ("lock", 1, "y", "hold"),
        )
        right = [(False, ()), (True, (0,)), (False, ()), (True, (0, 2)), (False, ())]
        steps = [("release", 1), ("lock", 1, "x", "replace"), ("lock", 1, "x", "keep"), ("back", 1), ("begin",)]
        for step in [*steps, ("commit", 1), ("lock", 2, "x", "replace"), ("crash",)]:
            self.assertEqual([(some.is_idle(at), some.covers(at)) for at in range(5)], right, step)
            getattr(some, step[0])(*step[1:])
        self.assertEqual([(some.is_idle(at), some.covers(at)) for at in range(5)], right)
        self.assertEqual([some.covers(at) for at in range(5, 8)], [(), (0, 2, 3, 5), ()])

    def test_of_another_transaction(self):
        some = begun(2, ("lock", 1, "x", "keep"), ("lock", 2, "x", "keep"), ("lock", 2, "x", "hold"))
        self.assertEqual([some.covers(at) for at in range(3)], [(), (), (1,)])


class SideBySide(unittest.TestCase):
    def test_two_lists(self):
        one, other = LockList(["x", "y"]), LockList(["x"])
        for some in (one, other):
            some.begin()
        one.lock(1, "x", "replace")
        one.save(1)
        self.assertEqual((other.entries(), other.profile(1, "x"), other.blockers("x", "hold")), ([], (None,), []))
        other.lock(1, "x", "hold")
        other.lock(1, "x", "hold")
        self.assertEqual((one.entries(), one.profile(1, "x")), ([(1, "x", "locks", "replace")], ("replace", "replace")))
        self.assertEqual((one.names, other.names, one.is_idle(0), other.is_idle(1)), (("x", "y"), ("x",), False, True))
        other.commit(1)
        self.assertEqual((one.blockers("x", "hold"), other.blockers("x", "hold")), ([1], []))


if __name__ == "__main__":
    unittest.main()
