"""Points 4 and 5 against a second, naive program: all short histories and some long ones.

A LockList is a Fates too, and keeps these points with the same methods.
"""

import copy
import unittest

from rowmarks.errors import MarkError
from rowmarks.fates import Fates
from rowmarks.locklists import LockList
from naive import OPERATIONS, Naive
from pictures import picture
from walker import Walker

DEPTH = 6
WALKS = 12
STEPS = 250
CALM = ("begin", "save", "save", "save", "release", "back", "prepare")
LOUD = ("begin",) + OPERATIONS


def steps_of(numbers):
    return [("begin",), ("crash",)] + [(word, number) for word in OPERATIONS for number in numbers]


class Compared(unittest.TestCase):
    def step(self, fates, naive, step):
        """Does one step on both and tells whether it was done."""
        refusal = naive.refusal(*step)
        call = getattr(fates, step[0])
        if refusal is None:
            self.assertEqual(call(*step[1:]), naive.do(*step), step)
        else:
            with self.assertRaises(MarkError) as caught:
                call(*step[1:])
            error = caught.exception
            self.assertEqual((error.__class__.__name__, *vars(error).values()), refusal, step)
        self.assertEqual(picture(fates), naive.picture(), step)
        return refusal is None

    def search(self, fates, naive, depth):
        if depth == 0:
            return 1
        many = 1
        for step in steps_of((1, 2)):
            next_fates, next_naive = copy.deepcopy((fates, naive))
            if self.step(next_fates, next_naive, step):
                many += self.search(next_fates, next_naive, depth - 1)
        return many

    def test_all_short_histories(self):
        self.assertGreater(self.search(Fates(), Naive(), DEPTH), 6000)

    def test_all_short_histories_of_a_lock_list(self):
        self.assertGreater(self.search(LockList(("x", "y")), Naive(), DEPTH - 1), 1000)

    def walk(self, fates, walker):
        naive = Naive()
        for _ in range(STEPS):
            numbers = naive.running() * 3 + list(range(len(naive.states) + 2))[-3:]
            words = LOUD if walker.pick(range(5)) == 0 else CALM
            word = "crash" if walker.pick(range(60)) == 0 else walker.pick(words)
            step = (word,) if word in ("begin", "crash") else (word, walker.pick(numbers))
            self.step(fates, naive, step)

    def test_long_histories(self):
        for seed in range(WALKS):
            self.walk(Fates(), Walker(seed))

    def test_long_histories_of_a_lock_list(self):
        for seed in range(WALKS):
            self.walk(LockList(["x"]), Walker(seed))


if __name__ == "__main__":
    unittest.main()
