"""Points 9 and 11 against a second, naive program: members and sets behind many ends."""

import itertools
import unittest

from rowmarks.fates import Fates
from rowmarks.members import canonical, fits
from rowmarks.sets import SetBook
from naive import Naive
from naive_locks import naive_canonical
from walker import Walker

MODES = ("hold", "keep", "change", "replace")
KINDS = [("locks", mode) for mode in MODES] + [("changes", "change"), ("changes", "replace")]
CALM = ("begin", "save", "save", "save", "release", "release", "back")
WALKS = 30
STEPS = 60


class Pair:
    """A Fates and a naive one that do the same."""

    def __init__(self):
        self.fates, self.naive = Fates(), Naive()

    def do(self, word, *numbers):
        if self.naive.refusal(word, *numbers) is None:
            self.naive.do(word, *numbers)
            getattr(self.fates, word)(*numbers)

    def any_step(self, walker):
        word = walker.pick(CALM if walker.pick(range(6)) else ("commit", "abort", "prepare"))
        if word == "begin" and len(self.naive.running()) > 2:
            word = "save"
        if walker.pick(range(40)) == 0:
            self.do("crash")
        elif word == "begin":
            self.do(word)
        elif self.naive.running():
            self.do(word, walker.pick(self.naive.running()))

    def some_members(self, walker, most):
        parts = list(self.naive.parts)[-9:]
        return [(part, *walker.pick(KINDS)) for part in walker.several(parts, most)] if parts else []


class Compared(unittest.TestCase):
    def test_all_small_lists_of_two_parts(self):
        endings = ([], ["release"], ["back"], ["release", "commit"], ["commit"], ["abort"], ["back", "commit"])
        members = [(part, *kind) for part in (1, 2) for kind in KINDS]
        for words in endings:
            pair = Pair()
            pair.do("begin")
            pair.do("save", 1)
            for word in words:
                pair.do(word, 1)
            for size in range(5):
                for some in itertools.combinations(members, size):
                    self.assertEqual(canonical(some, pair.fates), naive_canonical(some, pair.naive), (words, some))

    def test_long_walks(self):
        for seed in range(WALKS):
            pair, walker = Pair(), Walker(seed)
            for _ in range(STEPS):
                pair.any_step(walker)
                some = pair.some_members(walker, 7)
                self.assertEqual(canonical(some, pair.fates), naive_canonical(some, pair.naive), some)

    def test_canonical_members_stand_for_the_members_behind_all_ends(self):
        for seed in range(WALKS):
            pair, walker, seen = Pair(), Walker(seed), []
            for _ in range(STEPS):
                pair.any_step(walker)
                some = pair.some_members(walker, 7)
                seen = seen[-5:] + [(some, canonical(some, pair.fates))]
                for members, told in seen:
                    self.assertEqual(canonical(told, pair.fates), canonical(members, pair.fates))
                    self.assertTrue(fits(members, canonical(told, pair.fates), pair.fates))

    def test_fitting_behind_all_ends(self):
        found = 0
        for seed in range(WALKS):
            pair, walker, book = Pair(), Walker(seed), SetBook()
            for _ in range(STEPS):
                pair.any_step(walker)
                book.write(pair.some_members(walker, 3))
                if walker.pick(range(3)) == 0:
                    book.forget(walker.pick(book.taken()))
                need = naive_canonical(pair.some_members(walker, 3), pair.naive)
                right = [n for n in book.taken() if naive_canonical(book[n], pair.naive) == need]
                self.assertEqual(book.fitting(need, pair.fates), right[0] if right else None)
                found += len(right) > 1
        self.assertGreater(found, 100)


if __name__ == "__main__":
    unittest.main()
