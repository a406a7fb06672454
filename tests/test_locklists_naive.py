"""Points 7, 8 and 24 against a second, naive program: all short histories and some long ones."""

import copy
import unittest

from rowmarks.errors import MarkError
from rowmarks.locklists import LockList
from naive_locks import NaiveLocks
from pictures import list_picture
from walker import Walker

MODES = ("hold", "keep", "change", "replace")
ENDS = ("release", "back", "prepare", "commit", "abort")
DEPTH = 5
WALKS = 12
STEPS = 90


def short_steps():
    yield from [("begin",), ("crash",), ("save", 1), ("release", 1), ("back", 1), ("commit", 1)]
    for number in (1, 2):
        yield from [("lock", number, "x", mode) for mode in ("hold", "keep")]
        yield "change", number, "x", "replace"


def next_step(naive, walker):
    """Any step, most of them such that they can be done."""
    numbers = naive.running() * 4 + list(range(len(naive.states) + 2))[-2:]
    kind = walker.pick(range(40))
    if kind == 0:
        return ("crash",)
    if kind < 5 or (kind < 15 and len(naive.running()) < 3):
        return ("begin",)
    if kind < 25:
        return walker.pick(("save", "save") + ENDS[:2] * 2 + ENDS), walker.pick(numbers)
    word = walker.pick(("lock", "lock", "lock", "change"))
    mode = walker.pick(("hold", "hold", "hold", "keep", "keep", "change", "replace", "none"))
    return word, walker.pick(numbers), walker.pick(("x", "x", "x", "y", "y", "z")), mode


class Compared(unittest.TestCase):
    def step(self, some, naive, step):
        """Does one step on both and tells whether it was done."""
        asks = step[0] in ("lock", "change")
        refusal = naive.request_refusal(*step) if asks else naive.refusal(*step)
        call = getattr(some, step[0])
        if refusal is None:
            self.assertEqual(call(*step[1:]), naive.request(*step) if asks else naive.do(*step), step)
        else:
            with self.assertRaises(MarkError) as caught:
                call(*step[1:])
            error = caught.exception
            self.assertEqual((error.__class__.__name__, *vars(error).values()), refusal, step)
        self.assertEqual(list_picture(some), naive.list_picture(), step)
        return refusal is None

    def search(self, some, naive, depth):
        if depth == 0:
            return 1
        many = 1
        for step in short_steps():
            next_some, next_naive = copy.deepcopy((some, naive))
            if self.step(next_some, next_naive, step):
                many += self.search(next_some, next_naive, depth - 1)
        return many

    def test_all_short_histories(self):
        self.assertGreater(self.search(LockList(["x"]), NaiveLocks(("x",)), DEPTH), 2000)

    def test_long_histories(self):
        idle = 0
        for seed in range(WALKS):
            some, naive, walker = LockList(["y", "x"]), NaiveLocks(("x", "y")), Walker(seed)
            for _ in range(STEPS):
                self.step(some, naive, next_step(naive, walker))
            idle += len(naive.idle)
        self.assertGreater(idle, 20)


class IdleLocksChangeNothing(unittest.TestCase):
    def answers(self, some):
        return [
            [[some.profile(number, name) for number in some.running()], some.blockers(name, mode)]
            for name in some.names
            for mode in MODES
        ]

    def test_a_list_without_the_idle_locks_answers_alike(self):
        left_out = 0
        for seed in range(WALKS):
            some, bare, walker = LockList(["x", "y"]), LockList(["x", "y"]), Walker(seed + 100)
            naive = NaiveLocks(("x", "y"))
            for _ in range(STEPS):
                step = next_step(naive, walker)
                asks = step[0] in ("lock", "change")
                if (naive.request_refusal(*step) if asks else naive.refusal(*step)) is not None:
                    continue
                naive.request(*step) if asks else naive.do(*step)
                getattr(some, step[0])(*step[1:])
                if asks and some.is_idle(len(some.entries()) - 1):
                    left_out += 1
                else:
                    getattr(bare, step[0])(*step[1:])
                self.assertEqual(self.answers(some), self.answers(bare), step)
            kept = [entry for at, entry in enumerate(some.entries()) if not some.is_idle(at)]
            self.assertEqual((bare.entries(), [bare.is_idle(at) for at in range(len(kept))]), (kept, [False] * len(kept)))
        self.assertGreater(left_out, 20)

    def test_an_idle_lock_of_an_inner_part_behind_each_end(self):
        ends = (["back"], ["release"], ["release", "commit"], ["release", "abort"], ["commit"], ["abort"])
        for words in ends:
            some, bare = LockList(["x"]), LockList(["x"])
            for one in (some, bare):
                one.begin()
                one.lock(1, "x", "keep")
                one.save(1)
            some.lock(1, "x", "keep")
            some.lock(1, "x", "hold")
            self.assertEqual((some.is_idle(1), some.is_idle(2)), (True, True))
            self.assertEqual(self.answers(some), self.answers(bare))
            for word in words:
                getattr(some, word)(1)
                getattr(bare, word)(1)
                self.assertEqual(self.answers(some), self.answers(bare), words)


if __name__ == "__main__":
    unittest.main()
