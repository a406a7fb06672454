"""Points 18 and 24: whether markings tell, whatever ends come next."""

import copy
import unittest

from rowmarks.errors import BadName, Impossible, UnknownTransaction
from rowmarks.histories import listed
from rowmarks.markings import first_misfit, marking
from rowmarks.telling import first_untold, tells_history, told_profile
from drawn import drawn_history
from naive_marked import NaiveMarked
from oddities import NO_NUMBERS, NO_ROWS
from spoiled import spoiled, with_more, with_writes
from walker import Walker

VALUES = {"x": 0, "y": 1}
ENDS = ("release", "back", "commit", "abort", "crash")
HOLD = (1, "locks", "hold")
CHANGED = (("begin",), ("begin",), ("lock", 2, "x", "hold"), ("change", 1, "x", "change", 1))
STARTS = (
    (("begin",),),
    CHANGED,
    CHANGED + (("save", 1), ("change", 1, "x", "change", 2)),
    (("begin",), ("lock", 1, "x", "keep"), ("save", 1), ("change", 1, "x", "change", 1), ("begin",), ("lock", 2, "x", "hold")),
)


def behind(values, history, value):
    """The naive marks behind a history, or the operation and place of the first write that is none."""
    marked = NaiveMarked(values)
    for at, operation in enumerate(history, 1):
        index = marked.step(operation, value[at - 1])
        if index is not None:
            return at, index
    return marked


def all_wrong(marked, depth):
    """What is told wrongly behind any ends, at most so many, as a dict from (number, name) to ends."""
    found, seen, front = {}, set(), [((), marked)]
    for _ in range(depth + 1):
        behind_next = []
        for ends, now in front:
            for pair in now.wrong_profiles():
                found.setdefault(pair, ends)
            for end in now.possible_ends():
                after = copy.deepcopy(now)
                after.step(end, ())
                key = repr((after.naive.picture()[2:], [(part, row["fate"], row["label"]) for part, row in after.naive.parts.items()]))
                if key not in seen:
                    seen.add(key)
                    behind_next.append((ends + (end,), after))
        front = behind_next
    return found


class Judged(unittest.TestCase):
    def first_wrong(self, values, history, value):
        """The first operation behind which something is told wrongly, with all that is, by trying all ends."""
        marked = NaiveMarked(values)
        for at, operation in enumerate(history, 1):
            index = marked.step(operation, value[at - 1])
            if index is not None:
                return "write", at, index
            found = all_wrong(marked, 9)
            if found:
                return ("untold", at, *min(found))
        return None

    def check_ends(self, values, history, value, told):
        _, at, number, name, ends = told
        self.assertIsInstance(ends, tuple)
        self.assertLessEqual(len(ends), 9)
        marked = behind(values, history[:at], value)
        for end in ends:
            self.assertIn(end[0], ENDS)
            self.assertIn(end, marked.possible_ends())
            marked.step(end, ())
        self.assertIn((number, name), marked.wrong_profiles())

    def told(self, history, value, values=VALUES):
        told = first_untold(values, history, value)
        self.assertIs(tells_history(values, history, value), told is None)
        self.assertEqual(told if told is None else told[:4], self.first_wrong(values, history, value))
        if told is not None and told[0] == "untold":
            self.check_ends(values, history, value, told)
        return told

    def test_the_stores_marking_tells(self):
        for seed in range(40):
            history = drawn_history(VALUES, seed, 40)
            self.assertIsNone(first_untold(VALUES, history, marking(VALUES, history)))

    def test_drawn_ones_against_all_ends(self):
        kinds = []
        for seed in range(60):
            walker = Walker(seed + 7)
            start = STARTS[seed % len(STARTS)]
            history = drawn_history(VALUES, seed, len(start) + seed % 6, start)
            value = marking(VALUES, history)
            for _ in range(3):
                told = self.told(history, spoiled(VALUES, history, value, walker))
                kinds.append("tells" if told is None else told[0] if told[0] == "write" else len(told[4]))
        for kind in ("tells", "write", 0, 1, 2):
            self.assertGreater(kinds.count(kind), 1, kinds)

    def test_long_drawn_ones(self):
        ends = []
        for seed in range(120):
            walker = Walker(seed + 70)
            history = drawn_history(VALUES, seed, 40, STARTS[seed % len(STARTS)])
            value = spoiled(VALUES, history, marking(VALUES, history), walker)
            told = first_untold(VALUES, history, value)
            self.assertIs(tells_history(VALUES, history, value), told is None)
            if told is None or told[0] == "untold":
                misfit = first_misfit(VALUES, history, value)
                # A marking that fits tells, and so does one up to its first misfit.
                self.assertTrue(told is None or (misfit is not None and misfit[1] <= told[1]))
            if told is not None and told[0] == "untold":
                self.check_ends(VALUES, history, value, told)
                ends.append(len(told[4]))
        self.assertGreater(ends.count(0), 10)
        self.assertGreater(len(ends) - ends.count(0), 2)

    def test_told_wrongly_at_once(self):
        history = (("begin",), ("begin",), ("lock", 1, "x", "hold"))
        value = marking(VALUES, history)
        self.assertEqual(self.told(history, with_writes(value, 3)), ("untold", 3, 1, "x", ()))
        bad = with_more(value, 2, ("mark", "y", 0, (2, "locks", "keep")))
        self.assertEqual(self.told(history, bad), ("untold", 2, 2, "y", ()))

    def test_the_least_number_and_the_first_name(self):
        history = (("begin",), ("begin",), ("begin",), ("lock", 2, "x", "hold"), ("lock", 2, "y", "hold"), ("lock", 3, "y", "hold"), ("begin",))
        value = marking(VALUES, history)
        bad = with_more(value, 7, ("mark", "x", 0, None), ("mark", "y", 0, None))
        self.assertEqual(self.told(history, bad), ("untold", 7, 2, "x", ()))
        bad = with_more(value, 7, ("mark", "y", 0, (4, "locks", "hold")))
        self.assertEqual(self.told(history, bad), ("untold", 7, 2, "y", ()))
        bad = with_more(value, 7, ("mark", "y", 0, (2, "locks", "hold")))
        self.assertEqual(self.told(history, bad), ("untold", 7, 3, "y", ()))

    def changed(self, depth=1):
        """Transaction 2 holds x, transaction 1 has changed it in each of its open parts."""
        history = (("begin",), ("begin",), ("lock", 2, "x", "hold"), ("change", 1, "x", "change", 1))
        for _ in range(depth - 1):
            history += (("save", 1), ("change", 1, "x", "change", 1))
        return history

    def without(self, history, *versions):
        """The store's marking, but behind all some versions lack the lock of transaction 2."""
        lacks = [("mark", "x", version, (1, "locks", "hold")) for version in versions]
        return with_more(marking(VALUES, history), len(history), *lacks)

    def test_lost_by_a_commit_alone(self):
        history = self.changed() + (("begin",),)
        value = with_more(marking(VALUES, history), 5, ("mark", "x", 1, None))
        self.assertEqual(self.told(history, value), ("untold", 5, 2, "x", (("commit", 1),)))
        self.assertEqual(first_misfit(VALUES, history, value)[:4], ("misfit", 5, "x", 1))

    def test_lost_by_an_abort_alone(self):
        history = self.changed() + (("begin",),)
        value = with_more(marking(VALUES, history), 5, ("mark", "x", 0, (1, "changes", "change")))
        self.assertEqual(self.told(history, value)[:4], ("untold", 5, 2, "x"))
        self.assertIn(self.told(history, value)[4], ((("abort", 1),), (("crash",),)))

    def test_lost_behind_several_ends(self):
        for depth in (2, 3, 4, 5):
            history = self.changed(depth) + (("begin",),)
            value = marking(VALUES, history)
            for version in range(1, depth):
                bad = with_more(value, len(history), ("mark", "x", version, (version + 2, "changes", "change")))
                if version == depth - 1:
                    self.assertIsNotNone(first_misfit(VALUES, history, bad))
                told = first_untold(VALUES, history, bad)
                self.check_ends(VALUES, history, bad, told)
                self.assertEqual((told[:4], told[4][-1]), (("untold", len(history), 2, "x"), ("commit", 1)))
                self.assertEqual(len(told[4]), depth - version + 1)

    def test_lost_by_going_back_alone(self):
        # The member stands at the version that goes back with its part, though the part of its lock stays open.
        history = (("begin",), ("lock", 1, "x", "keep"), ("save", 1), ("change", 1, "x", "change", 1))
        value = with_more(marking(VALUES, history), 4, ("mark", "x", 0, (2, "changes", "change")), ("mark", "x", 1, (1, "locks", "keep")))
        self.assertEqual(self.told(history, value), ("untold", 4, 1, "x", (("back", 1),)))

    def test_prepared_transactions_only_commit_or_abort(self):
        history = self.changed() + (("prepare", 1), ("prepare", 2))
        value = with_more(marking(VALUES, history), 6, ("mark", "x", 1, None))
        self.assertEqual(self.told(history, value), ("untold", 6, 2, "x", (("commit", 1),)))

    def test_releases_lose_nothing(self):
        # A lock is told for an inner part that the changer's mark shows with the part it was released from.
        history = (("begin",), ("save", 1), ("lock", 1, "x", "keep"), ("save", 1), ("release", 1), ("release", 1), ("begin",))
        value = with_more(marking(VALUES, history), 7, ("mark", "x", 0, (3, "locks", "keep")))
        self.assertIsNone(self.told(history, value))

    def test_markings_that_tell_and_do_not_fit(self):
        history = (("begin",), ("begin",), ("change", 1, "x", "change", 1), ("lock", 2, "x", "hold"))
        value = with_more(marking(VALUES, history), 4, ("set", 9, ((1, "changes", "change"), (1, "locks", "change"), (2, "locks", "hold"))), ("mark", "x", 0, 9))
        self.assertIsNone(self.told(history, value))
        self.assertIsNone(first_misfit(VALUES, history, value))
        value = with_more(marking(VALUES, history), 4, ("set", 9, ((1, "locks", "change"), (2, "locks", "hold"))), ("mark", "x", 0, 9))
        self.assertIsNone(self.told(history, value))
        self.assertEqual(first_misfit(VALUES, history, value)[0], "misfit")

    def test_forms_and_writes(self):
        history = self.changed()
        value = marking(VALUES, history)
        for bad in (list(value), value[:-1], value + ((),), None, value[:3] + ([],), *NO_NUMBERS):
            self.assertEqual(first_untold(VALUES, history, bad), ("form",))
            self.assertIs(tells_history(VALUES, history, bad), False)
        self.assertEqual(self.told(history, with_more(value, 4, None)), ("write", 4, 3))
        self.assertEqual(self.told(history, with_more(with_writes(value, 3), 4, None)), ("untold", 3, 2, "x", ()))
        self.assertEqual(first_untold((VALUES), (), ()), None)

    def test_impossible_comes_first(self):
        for call in (first_untold, tells_history, lambda *given: told_profile(*given, "none", "q")):
            for history, number in (((("save", 1),), 1), (None, 0)):
                with self.assertRaises(Impossible) as caught:
                    call(VALUES, history, ())
                self.assertEqual(caught.exception.operation, number)

    def test_eight_transactions_with_five_parts(self):
        values = {name: 0 for name in "abcdefghijkl"}
        history = tuple(("begin",) for _ in range(8)) + tuple(("save", number) for number in range(1, 9) for _ in range(3))
        history += tuple(("save", number) for number in range(1, 6)) + (("lock", 8, "l", "hold"), ("lock", 7, "l", "hold"), ("change", 1, "l", "change", 1))
        self.assertEqual(len(history), 40)
        value = marking(values, history)
        self.assertIsNone(first_untold(values, history, value))
        bad = with_more(value, 40, ("mark", "l", 1, (history.index(("save", 8)) and 32, "locks", "hold")))
        told = first_untold(values, history, bad)
        self.assertEqual(told[:4], ("untold", 40, 7, "l"))
        self.check_ends(values, history, bad, told)


class Profiles(unittest.TestCase):
    def test_profiles_of_the_stores_marking(self):
        for seed in range(15):
            history = drawn_history(VALUES, seed, 45)
            value, some = marking(VALUES, history), listed(VALUES, history)
            for number in range(1, history.count(("begin",)) + 1):
                for name in VALUES:
                    told = told_profile(VALUES, history, value, number, name)
                    self.assertEqual((told, told.__class__), (some.profile(number, name), tuple))

    def test_profiles_of_spoiled_ones(self):
        for seed in range(60):
            walker = Walker(seed)
            history = drawn_history(VALUES, seed, 30)
            value = spoiled(VALUES, history, marking(VALUES, history), walker)
            marked = behind(VALUES, history, value)
            if isinstance(marked, NaiveMarked):
                for number in marked.naive.states:
                    for name in VALUES:
                        self.assertEqual(told_profile(VALUES, history, value, number, name), marked.profile(number, name))

    def test_errors(self):
        history = (("begin",), ("begin",), ("commit", 1), ("save", 2), ("lock", 2, "x", "hold"))
        value = marking(VALUES, history)
        self.assertEqual(told_profile(VALUES, history, value, 1, "x"), ())
        self.assertEqual(told_profile(name="x", number=2, value=value, history=history, values=VALUES), (None, "hold"))
        for number in (3, 0, -1) + NO_NUMBERS:
            for name in ("x", "q", None):
                with self.assertRaises(UnknownTransaction) as caught:
                    told_profile(VALUES, history, value, number, name)
                self.assertIs(caught.exception.value, number)
        for name in NO_ROWS:
            for number in (1, 2):
                with self.assertRaises(BadName) as caught:
                    told_profile(VALUES, history, value, number, name)
                self.assertIs(caught.exception.value, name)


if __name__ == "__main__":
    unittest.main()
