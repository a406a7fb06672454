"""Point 16: papers of locks and changes, and readings of marks, each checked by the document's conditions."""

import unittest

from rowmarks.errors import BadName, Impossible
from rowmarks.papers import papers, readings
from drawn import drawn_history
from naive_locks import RANKS, naive_canonical
from naive_store import NaiveStore
from oddities import NO_ROWS

VALUES = {"x": 0, "y": 1}
WALKS = 60


def behind(values, history):
    """The naive store behind a history and the operations that ended and joined its parts."""
    naive = NaiveStore(values)
    for operation in history:
        naive.perform(operation)
    return naive


class Checked(unittest.TestCase):
    def way(self, naive, part):
        found = []
        while naive.parts[part]["joined"] is not None:
            found.append(naive.parts[part]["joined"])
            part = naive.parts[part]["around"]
        return tuple(found)

    def stands_before(self, naive, at):
        """The version that stands before the one that a change made."""
        name = naive.list[at][1]
        made = sum(entry[1:3] == (name, "changes") for entry in naive.list[:at + 1])
        return [version for version in naive.current(name) if version < made][-1]

    def shown(self, naive, at):
        """All papers ("shown", ..) that are right for an entry."""
        part, name, word, mode = naive.list[at]
        owner = naive.owner(part)
        versions = naive.current(name) if word == "locks" else [self.stands_before(naive, at)]
        found = []
        for version in versions:
            members = naive.members(naive.rows[name][version]["mark"])
            if (owner, word, mode) in naive_canonical(members, naive):
                for member in members:
                    if (naive.owner(member[0]), *member[1:]) == (owner, word, mode):
                        found.append(("shown", version, member, self.way(naive, member[0])))
        return found

    def covered(self, naive, at):
        part, name, _, mode = naive.list[at]
        reach = naive.inside_out(naive.owner(part))
        return [
            ("covered", version, member)
            for version in naive.current(name)
            for member in naive.told(name, version)
            if member[0] in reach and RANKS[member[2]] >= RANKS[mode]
        ]

    def right_papers(self, naive, at):
        part = naive.list[at][0]
        if naive.owner(part) is None:
            return [("ended", naive.parts[part]["ended"])]
        if at in naive.idle:
            return [("idle", other) for other in naive.idle[at]]
        return self.shown(naive, at) or self.covered(naive, at)

    def check(self, values, history):
        naive, told = behind(values, history), papers(values, history)
        self.assertEqual(len(told), len(naive.list))
        for at, paper in enumerate(told):
            self.assertIn(paper, self.right_papers(naive, at), (history, at))
            self.assertIsInstance(paper, tuple)
        for name in naive.names:
            self.check_readings(naive, name, readings(values, history, name))
        return [paper[0] for paper in told]

    def check_readings(self, naive, name, told):
        expected = [(version, member) for version in naive.current(name) for member in naive.told(name, version)]
        self.assertEqual([reading[:2] for reading in told], expected)
        self.assertIsInstance(told, list)
        for _, member, at in told:
            part, row, word, mode = naive.list[at]
            self.assertEqual(((naive.owner(part), word, mode), row), (member, name))
            self.assertNotIn(at, naive.idle)

    def test_drawn_histories(self):
        kinds = []
        for seed in range(WALKS):
            kinds.extend(self.check(VALUES, drawn_history(VALUES, seed, 20 + seed % 41)))
        for kind in ("ended", "idle", "shown", "covered"):
            self.assertGreater(kinds.count(kind), 5, kind)


class Papers(Checked):
    def told(self, *history):
        self.check(VALUES, history)
        return papers(VALUES, history)

    def test_nothing(self):
        self.assertEqual((papers(VALUES, ()), readings(VALUES, (), "x")), ([], []))

    def test_a_lock_and_a_change(self):
        told = self.told(("begin",), ("lock", 1, "x", "keep"), ("change", 1, "y", "change", 5))
        self.assertEqual(told, [("shown", 0, (1, "locks", "keep"), ()), ("shown", 0, (1, "changes", "change"), ())])

    def test_each_end(self):
        begun = (("begin",), ("save", 1), ("lock", 1, "x", "hold"))
        self.assertEqual(self.told(*begun, ("back", 1)), [("ended", 4)])
        self.assertEqual(self.told(*begun, ("crash",)), [("ended", 4)])
        for word in ("commit", "abort"):
            self.assertEqual(self.told(*begun, ("clean",), (word, 1), ("begin",)), [("ended", 5)])
            self.assertEqual(self.told(*begun, ("release", 1), (word, 1)), [("ended", 5)])

    def test_joins_in_the_order_of_the_way(self):
        begun = (("begin",), ("save", 1), ("save", 1), ("save", 1), ("change", 1, "x", "change", 5), ("lock", 1, "y", "hold"))
        told = self.told(*begun, ("release", 1), ("clean",), ("release", 1), ("release", 1))
        # The cleaning wrote the members anew, with the roots that they had then.
        self.assertEqual(told, [("shown", 0, (3, "changes", "change"), (9, 10)), ("shown", 0, (3, "locks", "hold"), (9, 10))])
        told = self.told(*begun, ("release", 1), ("release", 1), ("release", 1))
        self.assertEqual(told, [("shown", 0, (4, "changes", "change"), (7, 8, 9)), ("shown", 0, (4, "locks", "hold"), (7, 8, 9))])

    def test_covered_by_a_lock_of_an_outer_part(self):
        told = self.told(("begin",), ("save", 1), ("lock", 1, "x", "hold"), ("release", 1), ("lock", 1, "x", "keep"))
        self.assertEqual(told, [("covered", 0, (1, "locks", "keep")), ("shown", 0, (1, "locks", "keep"), ())])

    def test_covered_by_a_change(self):
        told = self.told(("begin",), ("lock", 1, "x", "keep"), ("change", 1, "x", "change", 1))
        self.assertEqual(told, [("covered", 0, (1, "changes", "change")), ("shown", 0, (1, "changes", "change"), ())])

    def test_idle_locks(self):
        told = self.told(("begin",), ("lock", 1, "x", "keep"), ("save", 1), ("lock", 1, "x", "hold"), ("lock", 1, "x", "keep"))
        self.assertEqual([paper[0] for paper in told], ["shown", "idle", "idle"])
        self.assertEqual(told[1:], [("idle", 0), ("idle", 0)])

    def test_an_idle_lock_whose_part_has_ended(self):
        told = self.told(("begin",), ("lock", 1, "x", "keep"), ("save", 1), ("lock", 1, "x", "hold"), ("back", 1))
        self.assertEqual(told, [("shown", 0, (1, "locks", "keep"), ()), ("ended", 5)])

    def test_changes_are_shown_before_what_they_made(self):
        told = self.told(
            ("begin",), ("change", 1, "x", "change", 1), ("save", 1), ("change", 1, "x", "change", 2), ("back", 1),
            ("change", 1, "x", "change", 3), ("change", 1, "x", "change", 4),
        )
        change = (1, "changes", "change")
        self.assertEqual(told, [("shown", 0, change, ()), ("ended", 5), ("shown", 1, change, ()), ("shown", 3, change, ())])

    def test_readings_of_sets_over_several_versions(self):
        history = (
            ("begin",), ("begin",), ("lock", 1, "x", "hold"), ("lock", 1, "x", "hold"), ("change", 2, "x", "change", 1),
            ("change", 2, "x", "change", 2), ("lock", 2, "x", "replace"),
        )
        self.assertEqual(self.told(*history[:-1])[1], ("idle", 0))
        self.assertRaises(Impossible, papers, VALUES, history)
        hold, change = (1, "locks", "hold"), (2, "changes", "change")
        told = readings(VALUES, history[:-1], "x")
        self.assertEqual([row[:2] for row in told], [(0, hold), (0, change), (1, hold), (1, change), (2, hold)])
        self.assertEqual([told[0][2], told[2][2], told[4][2]], [0, 0, 0])
        self.assertEqual(readings(VALUES, history[:-1], name="y"), [])

    def test_names_behind_impossible(self):
        for value in NO_ROWS:
            if value != "y":
                self.assert_named(value)

    def assert_named(self, value):
        with self.assertRaises(BadName) as caught:
            readings(VALUES, (("begin",),), value)
        self.assertIs(caught.exception.value, value)
        with self.assertRaises(Impossible) as caught:
            readings(VALUES, (("save", 1),), value)
        self.assertEqual(caught.exception.operation, 1)


if __name__ == "__main__":
    unittest.main()
