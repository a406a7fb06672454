"""Points 6 to 14 and 24 against a second, naive store: all short histories and some long ones."""

import copy
import unittest

from rowmarks.errors import MarkError
from rowmarks.histories import do_stored
from rowmarks.stores import Store
from drawn import next_operation
from naive_store import NaiveStore
from pictures import answers, row_pictures, store_picture
from walker import Walker

DEPTH = 4
WALKS = 40
STEPS = 70


def short_steps():
    yield from [("begin",), ("crash",), ("clean",), ("horizon", 1), ("save", 1), ("release", 1), ("back", 1), ("commit", 1)]
    for number in (1, 2):
        yield from [("lock", number, "x", mode) for mode in ("hold", "keep")]
        yield "change", number, "x", "change", number


class Compared(unittest.TestCase):
    def step(self, store, naive, operation):
        """Does one operation on both and tells whether it was done."""
        refusal = naive.full_refusal(operation)
        if refusal is None:
            before = answers(store), [store.at(moment) for moment in range(store.horizon, store.moment() + 1)]
            do_stored(store, operation)
            naive.perform(operation)
            if operation == ("clean",):
                told = [store.at(moment) for moment in range(store.horizon, store.moment() + 1)]
                self.assertEqual((answers(store), told), before)
        else:
            with self.assertRaises(MarkError) as caught:
                do_stored(store, operation)
            error = caught.exception
            self.assertEqual((error.__class__.__name__, *vars(error).values()), refusal, operation)
        self.assertEqual(store_picture(store), naive.store_picture(), operation)
        self.assertEqual(answers(store), naive.answers(), operation)
        for name in naive.names:
            for number in naive.running():
                if naive.states[number] == "running":
                    self.assertEqual(store.read(number, name), naive.read(number, name))
            for version in naive.current(name):
                self.assertEqual(naive.told(name, version), naive.need(name, version))
        return refusal is None

    def search(self, store, naive, depth):
        if depth == 0:
            return 1
        many = 1
        for operation in short_steps():
            next_store, next_naive = copy.deepcopy((store, naive))
            if self.step(next_store, next_naive, operation):
                many += self.search(next_store, next_naive, depth - 1)
        return many

    def begun(self):
        store, naive = Store({"x": 0}), NaiveStore({"x": 0})
        for operation in (("begin",), ("begin",)):
            self.step(store, naive, operation)
        return store, naive

    def test_all_short_histories(self):
        self.assertGreater(self.search(*self.begun(), DEPTH), 2000)

    def test_long_histories(self):
        sets = cleaned = 0
        for seed in range(WALKS):
            values = {"y": -1, "x": 7}
            store, naive, walker = Store(values), NaiveStore(values), Walker(seed)
            for _ in range(STEPS):
                was = naive.made["x"] + naive.made["y"]
                self.step(store, naive, next_operation(naive, walker))
            sets += naive.written
            cleaned += was + 2 - sum(len(rows) for rows in naive.rows.values())
        self.assertGreater(sets, 100)
        self.assertGreater(cleaned, 30)


class IdleLocksChangeNothing(unittest.TestCase):
    def test_a_store_without_the_idle_locks_answers_alike(self):
        left_out = 0
        for seed in range(30):
            values = {"x": 0, "y": 0}
            store, bare, naive, walker = Store(values), Store(values), NaiveStore(values), Walker(seed + 500)
            for _ in range(60):
                operation = next_operation(naive, walker)
                if naive.full_refusal(operation) is not None:
                    continue
                naive.perform(operation)
                do_stored(store, operation)
                if operation[0] == "lock" and len(naive.list) - 1 in naive.idle:
                    left_out += 1
                else:
                    do_stored(bare, operation)
                self.assertEqual((answers(store), row_pictures(store)), (answers(bare), row_pictures(bare)), operation)
                self.assertEqual((store.sets(), store.written()), (bare.sets(), bare.written()))
        self.assertGreater(left_out, 50)


if __name__ == "__main__":
    unittest.main()
