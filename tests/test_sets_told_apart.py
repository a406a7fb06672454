"""Points 19 and 24: the sets that the store writes, how few they are, and what tells them apart."""

import unittest

from rowmarks.errors import Impossible
from rowmarks.histories import run
from rowmarks.markings import fewest_sets, first_misfit, marking, reasons, written
from drawn import drawn_history, next_holding
from naive_locks import naive_canonical
from naive_store import NaiveStore
from walker import Walker

VALUES = {"x": 0, "y": 1}
FOUR = {"v": 0, "w": 0, "x": 0, "y": 0}
ONE, TWO, THREE = [(number, "locks", "hold") for number in (1, 2, 3)]
LOCKED = (("begin",), ("begin",), ("begin",), ("lock", 1, "x", "hold"), ("lock", 2, "x", "hold"))


class Told(unittest.TestCase):
    def needless(self, naive, members):
        told = naive_canonical(members, naive)
        needs = [naive.need(name, version) for name in naive.names for version in naive.current(name)]
        return len(told) < 2 or told not in needs

    def right_reasons(self, values, history):
        """For each pair of writings all reasons that are right, by a naive store."""
        naive, sets, found, cleanings = NaiveStore(values), [], [], []
        for at, operation in enumerate(history, 1):
            naive.perform(operation)
            if operation == ("clean",):
                for one in range(len(sets)):
                    if self.needless(naive, sets[one]):
                        cleanings.append((one, at))
            for write in naive.writes:
                if write[0] != "set":
                    continue
                found.append([])
                for one, members in enumerate(sets):
                    first, second = set(naive_canonical(members, naive)), set(naive_canonical(write[2], naive))
                    lost = [("forgotten", time) for place, time in cleanings if place == one]
                    found[-1].append([("differs", member) for member in first ^ second] or lost)
                sets.append(write[2])
        return found

    def check(self, values, history):
        told, right = reasons(values, history), self.right_reasons(values, history)
        self.assertEqual([len(row) for row in told], list(range(len(told))))
        self.assertEqual(len(told), len(right))
        for row, right_row in zip(told, right):
            for reason, all_right in zip(row, right_row):
                self.assertIn(reason, all_right, history)
        return [reason[0] for row in told for reason in row]

    def test_drawn_histories(self):
        kinds = []
        for seed in range(60):
            kinds.extend(self.check(VALUES, drawn_history(VALUES, seed, 60)))
            kinds.extend(self.check(FOUR, drawn_history(FOUR, seed, 40, choose=next_holding)))
        self.assertGreater(kinds.count("differs"), 200)
        self.assertGreater(kinds.count("forgotten"), 5)

    def test_none_and_one(self):
        self.assertEqual((reasons(VALUES, ()), written(VALUES, ()), fewest_sets(VALUES, ())), ([], [], []))
        self.assertEqual(reasons(VALUES, LOCKED), [[]])
        self.assertEqual(written(history=LOCKED, values=VALUES), [(5, 1, (ONE, TWO))])
        self.assertEqual(fewest_sets(values=VALUES, history=LOCKED), [0, 0, 0, 0, 1])

    def test_sets_that_differ(self):
        history = LOCKED + (("lock", 3, "x", "hold"),)
        self.assertEqual(reasons(VALUES, history), [[], [("differs", THREE)]])
        self.assertEqual(written(VALUES, history), [(5, 1, (ONE, TWO)), (6, 2, (ONE, TWO, THREE))])

    def test_two_sets_of_one_operation(self):
        history = (("begin",), ("begin",), ("begin",), ("change", 3, "x", "change", 1), ("lock", 1, "x", "hold"), ("lock", 2, "x", "hold"))
        told = reasons(VALUES, history)
        self.check(VALUES, history)
        self.assertEqual([len(row) for row in told], [0, 1, 2])
        self.assertEqual([row[:2] for row in written(VALUES, history)], [(5, 1), (6, 2), (6, 3)])

    def test_a_set_that_is_forgotten_and_written_again(self):
        history = (
            ("begin",), ("save", 1), ("begin",), ("lock", 1, "x", "hold"), ("lock", 2, "x", "hold"), ("back", 1), ("clean",),
            ("lock", 1, "x", "hold"), ("begin",), ("clean",),
        )
        told = written(VALUES, history)
        self.assertEqual([row[:2] for row in told], [(5, 1), (8, 1)])
        self.assertEqual(reasons(VALUES, history), [[], [("differs", ONE)]])

    def test_a_set_that_reads_as_a_later_one_but_was_forgotten(self):
        # The first set loses a member by an abort; at the cleaning nobody needs it.
        history = (
            ("begin",), ("begin",), ("begin",), ("lock", 1, "x", "hold"), ("save", 2), ("lock", 2, "x", "keep"), ("clean",),
            ("change", 3, "y", "change", 1), ("release", 2),
        )
        self.check(VALUES, history)
        history = LOCKED + (
            ("save", 1), ("save", 2), ("lock", 1, "y", "hold"), ("lock", 2, "y", "hold"), ("back", 2), ("clean",), ("save", 2),
        )
        self.check(VALUES, history)

    def test_forgotten_while_it_was_not_needed(self):
        # The need of x grows by a third lock and loses it again behind the cleaning.
        history = LOCKED + (("lock", 3, "x", "hold"), ("clean",), ("abort", 3), ("lock", 1, "y", "hold"), ("lock", 2, "y", "hold"))
        self.check(VALUES, history)
        self.assertEqual(sorted(run(VALUES, history).sets()), [2])
        history = LOCKED + (
            ("save", 3), ("lock", 3, "x", "hold"), ("clean",), ("back", 3), ("clean",), ("abort", 3), ("begin",), ("save", 1),
            ("change", 4, "y", "change", 5), ("lock", 1, "y", "hold"), ("lock", 2, "y", "hold"), ("abort", 4), ("clean",),
        )
        self.check(VALUES, history)

    def test_a_reason_of_a_cleaning(self):
        history = (
            ("begin",), ("begin",), ("lock", 1, "x", "hold"), ("lock", 2, "x", "hold"), ("begin",), ("save", 3),
            ("lock", 3, "x", "hold"), ("clean",), ("lock", 1, "y", "hold"), ("lock", 2, "y", "hold"),
        )
        self.assertEqual([row[:2] for row in written(VALUES, history)], [(4, 1), (7, 2), (10, 1)])
        self.assertEqual(reasons(VALUES, history)[2], [("forgotten", 8), ("differs", (4, "locks", "hold"))])
        self.check(VALUES, history)

    def test_impossible(self):
        for call in (reasons, written, fewest_sets):
            for history, number in ((((("begin",), ("clean", 1))), 2), ("", 0)):
                with self.assertRaises(Impossible) as caught:
                    call(VALUES, history)
                self.assertEqual(caught.exception.operation, number)

    def test_written_and_counted_agree_with_the_store(self):
        for seed in range(30):
            history = drawn_history(VALUES, seed, 60)
            told, many = written(VALUES, history), fewest_sets(VALUES, history)
            naive = NaiveStore(VALUES)
            for at, operation in enumerate(history, 1):
                naive.perform(operation)
                sets = [(at, *write[1:]) for write in naive.writes if write[0] == "set"]
                self.assertEqual([row for row in told if row[0] == at], sets)
                self.assertEqual(many[at - 1], naive.written)
            self.assertEqual(run(VALUES, history).written(), len(told))


class Fewest(unittest.TestCase):
    """Other markings that fit write at least as many sets."""

    def fitting_marking(self, values, history, walker):
        """A marking that fits, in which marks name sets as they come, also other ones than the least."""
        naive, found, sets, marks = NaiveStore(values), [], {}, {}
        for operation in history:
            naive.perform(operation)
            writes = []
            for name in naive.names:
                for version in naive.current(name):
                    need = naive.need(name, version)
                    mark = marks.get((name, version))
                    members = () if mark is None else (mark,) if isinstance(mark, tuple) else sets[mark]
                    if naive_canonical(members, naive) == need and walker.pick(range(8)):
                        continue
                    mark = self.mark_for(naive, need, sets, writes, walker)
                    marks[name, version] = mark
                    writes.append(("mark", name, version, mark))
            if operation == ("clean",):
                named = [marks[name, version] for name in naive.names for version in naive.current(name) if (name, version) in marks]
                sets = {number: members for number, members in sets.items() if number in named}
            found.append(tuple(writes))
        return tuple(found)

    def mark_for(self, naive, need, sets, writes, walker):
        if len(need) < 2 and walker.pick(range(4)):
            return need[0] if need else None
        fitting = [number for number in sets if naive_canonical(sets[number], naive) == need]
        if fitting and walker.pick(range(6)):
            return walker.pick(fitting)
        number = walker.pick([one for one in range(1, 90) if one not in sets])
        ended = [(part, "locks", "hold") for part in naive.parts if naive.owner(part) is None]
        members = need + tuple(sorted(set(walker.several(ended, 2)))) if ended else need
        sets[number] = members
        writes.append(("set", number, members))
        return number

    def test_no_fitting_marking_writes_fewer_sets(self):
        equal = 0
        for seed in range(60):
            history = drawn_history(VALUES, seed, 40)
            value = self.fitting_marking(VALUES, history, Walker(seed))
            self.assertIsNone(first_misfit(VALUES, history, value))
            many, total = fewest_sets(VALUES, history), 0
            for at, writes in enumerate(value):
                total += sum(write[0] == "set" for write in writes)
                self.assertLessEqual(many[at], total)
                equal += 0 < many[at] == total
        self.assertGreater(equal, 10)

    def test_counts_are_told_for_each_operation(self):
        for seed in range(10):
            history = drawn_history(VALUES, seed, 50)
            many = fewest_sets(VALUES, history)
            sets = [sum(write[0] == "set" for write in writes) for writes in marking(VALUES, history)]
            self.assertEqual(many, [sum(sets[:at + 1]) for at in range(50)])


if __name__ == "__main__":
    unittest.main()
