"""The examples of the interface, word for word."""

import doctest
import unittest

MODES = """
    >>> from rowmarks.modes import Mode
    >>> [Mode("hold").clashes(Mode("change")), Mode("keep").clashes(Mode("change")), (Mode("hold") | Mode("keep")).word]
    [False, True, 'keep']
    >>> [Mode("replace").is_weaker(Mode("change")), Mode.strongest(["keep", "change", "hold"]), Mode.strongest([])]
    [False, 'change', None]
"""

FATES = """
    >>> from rowmarks.fates import Fates
    >>> fates = Fates()
    >>> [fates.begin(), fates.save(1), fates.begin(), fates.save(1), fates.parts(1), fates.around(4)]
    [1, 2, 2, 4, [1, 2, 4], 2]
    >>> [fates.release(1), fates.root(4), fates.owner(4), fates.joined_at(4), fates.back(1), fates.fate(4), fates.ended_at(4)]
    [None, 2, 2, 5, None, 'rolled back', 6]
"""

CANONICAL = """
    >>> from rowmarks.fates import Fates
    >>> from rowmarks.members import canonical
    >>> fates = Fates()
    >>> begun = [fates.begin(), fates.save(1), fates.begin()]
    >>> some = [(3, "locks", "hold"), (2, "locks", "keep"), (1, "locks", "hold"), (2, "changes", "change")]
    >>> canonical(some, fates)
    ((1, 'locks', 'hold'), (2, 'changes', 'change'), (3, 'locks', 'hold'))
    >>> [fates.back(1), canonical(some, fates)]
    [None, ((1, 'locks', 'hold'), (3, 'locks', 'hold'))]
"""

LOCK_LIST = """
    >>> from rowmarks.locklists import LockList
    >>> some = LockList(["x"])
    >>> [some.begin(), some.lock(1, "x", "hold"), some.save(1), some.change(1, "x", "change"), some.profile(1, "x")]
    [1, None, 2, None, ('hold', 'change')]
    >>> [some.blockers("x", "keep"), some.back(1), some.blockers("x", "keep"), some.blockers("x", "replace")]
    [[1], None, [], [1]]
"""


class Examples(unittest.TestCase):
    def check(self, name, text):
        example = doctest.DocTestParser().get_doctest(text, {}, name, None, 0)
        told = []
        outcome = doctest.DocTestRunner(verbose=False).run(example, out=told.append)
        self.assertGreater(outcome.attempted, 0)
        self.assertEqual(outcome.failed, 0, "".join(told))

    def test_stage_1(self):
        self.check("modes", MODES)

    def test_stage_2(self):
        self.check("fates", FATES)

    def test_stage_3(self):
        self.check("canonical", CANONICAL)

    def test_stage_4(self):
        self.check("lock list", LOCK_LIST)


if __name__ == "__main__":
    unittest.main()
