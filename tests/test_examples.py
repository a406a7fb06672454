"""The examples of the interface, word for word."""

import doctest
import unittest

MODES = """
    >>> from rowmarks.modes import Mode
    >>> [Mode("hold").clashes(Mode("change")), Mode("keep").clashes(Mode("change")), (Mode("hold") | Mode("keep")).word]
    [False, True, 'keep']
    >>> [Mode("replace").is_weaker(Mode("change")), Mode.strongest(["keep", "change", "hold"]), Mode.strongest([])]
    [False, 'change', None]
"""

FATES = """
    >>> from rowmarks.fates import Fates
    >>> fates = Fates()
    >>> [fates.begin(), fates.save(1), fates.begin(), fates.save(1), fates.parts(1), fates.around(4)]
    [1, 2, 2, 4, [1, 2, 4], 2]
    >>> [fates.release(1), fates.root(4), fates.owner(4), fates.joined_at(4), fates.back(1), fates.fate(4), fates.ended_at(4)]
    [None, 2, 2, 5, None, 'rolled back', 6]
"""


class Examples(unittest.TestCase):
    def check(self, name, text):
        example = doctest.DocTestParser().get_doctest(text, {}, name, None, 0)
        told = []
        outcome = doctest.DocTestRunner(verbose=False).run(example, out=told.append)
        self.assertGreater(outcome.attempted, 0)
        self.assertEqual(outcome.failed, 0, "".join(told))

    def test_stage_1(self):
        self.check("modes", MODES)

    def test_stage_2(self):
        self.check("fates", FATES)


if __name__ == "__main__":
    unittest.main()
