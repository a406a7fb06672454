"""The examples of the interface, word for word."""

import doctest
import unittest

MODES = """
    >>> from rowmarks.modes import Mode
    >>> [Mode("hold").clashes(Mode("change")), Mode("keep").clashes(Mode("change")), (Mode("hold") | Mode("keep")).word]
    [False, True, 'keep']
    >>> [Mode("replace").is_weaker(Mode("change")), Mode.strongest(["keep", "change", "hold"]), Mode.strongest([])]
    [False, 'change', None]
"""

FATES = """
    >>> from rowmarks.fates import Fates
    >>> fates = Fates()
    >>> [fates.begin(), fates.save(1), fates.begin(), fates.save(1), fates.parts(1), fates.around(4)]
    [1, 2, 2, 4, [1, 2, 4], 2]
    >>> [fates.release(1), fates.root(4), fates.owner(4), fates.joined_at(4), fates.back(1), fates.fate(4), fates.ended_at(4)]
    [None, 2, 2, 5, None, 'rolled back', 6]
"""

CANONICAL = """
    >>> from rowmarks.fates import Fates
    >>> from rowmarks.members import canonical
    >>> fates = Fates()
    >>> begun = [fates.begin(), fates.save(1), fates.begin()]
    >>> some = [(3, "locks", "hold"), (2, "locks", "keep"), (1, "locks", "hold"), (2, "changes", "change")]
    >>> canonical(some, fates)
    ((1, 'locks', 'hold'), (2, 'changes', 'change'), (3, 'locks', 'hold'))
    >>> [fates.back(1), canonical(some, fates)]
    [None, ((1, 'locks', 'hold'), (3, 'locks', 'hold'))]
"""

LOCK_LIST = """
    >>> from rowmarks.locklists import LockList
    >>> some = LockList(["x"])
    >>> [some.begin(), some.lock(1, "x", "hold"), some.save(1), some.change(1, "x", "change"), some.profile(1, "x")]
    [1, None, 2, None, ('hold', 'change')]
    >>> [some.blockers("x", "keep"), some.back(1), some.blockers("x", "keep"), some.blockers("x", "replace")]
    [[1], None, [], [1]]
"""

STORE = """
    >>> from rowmarks.stores import Store
    >>> store = Store({"x": 5})
    >>> told = [store.begin(), store.begin(), store.lock(1, "x", "hold"), store.save(2), store.change(2, "x", "change", 7)]
    >>> [store.sets(), store.mark("x", 0), store.mark("x", 1), store.writes()[1:]]
    [{1: ((1, 'locks', 'hold'), (3, 'changes', 'change'))}, 1, (1, 'locks', 'hold'), (('mark', 'x', 0, 1), ('mark', 'x', 1, (1, 'locks', 'hold')))]
    >>> told = [store.commit(1), store.lock(2, "x", "replace"), store.profile(2, "x"), store.mark("x", 1)]
    >>> told
    [None, None, (None, 'replace'), (3, 'locks', 'replace')]
    >>> told = [store.back(2), store.profile(2, "x"), store.writes(), store.need("x", 0), store.mark("x", 0)]
    >>> told
    [None, (None,), (), (), 1]
    >>> [store.clean(), store.mark("x", 0), store.sets(), store.at(0), store.at(1)]
    [None, None, {}, {'x': 5}, {'x': 5}]
"""

HANDLES = """
    >>> from rowmarks.handles import Transaction
    >>> from rowmarks.stores import Store
    >>> store = Store({"x": 5, "y": 0})
    >>> first, second = Transaction(store, store.begin()), Transaction(store, store.begin())
    >>> told = [second.lock("y"), first.attempt([("change", "x", "change", 6), ("lock", "y", "keep")])]
    >>> [first["x"], second["x"], "z" in first, store.parts(1), store.profile(1, "y"), store.operations]
    [6, 5, False, [1], ('keep',), 7]
"""

PAPERS = """
    >>> from rowmarks.papers import papers
    >>> some = (("begin",), ("lock", 1, "x", "keep"), ("lock", 1, "x", "hold"), ("save", 1), ("lock", 1, "x", "change"), ("release", 1))
    >>> papers({"x": 0}, some)
    [('covered', 0, (1, 'locks', 'change')), ('idle', 0), ('shown', 0, (2, 'locks', 'change'), (6,))]
"""

MARKINGS = """
    >>> from rowmarks.markings import fewest_sets, first_misfit, reasons
    >>> some = (("begin",), ("begin",), ("lock", 1, "x", "hold"), ("lock", 2, "x", "hold"), ("lock", 2, "y", "hold"), ("lock", 1, "y", "hold"))
    >>> [fewest_sets({"x": 0, "y": 0}, some), reasons({"x": 0, "y": 0}, some)]
    [[0, 0, 0, 1, 1, 1], [[]]]
    >>> first_misfit({"x": 0, "y": 0}, some, ((), (), (("mark", "x", 0, (1, "locks", "hold")),), (), (), ()))
    ('misfit', 4, 'x', 0, 'need', (2, 'locks', 'hold'))
"""

TELLING = """
    >>> from rowmarks.telling import first_untold
    >>> some = (("begin",), ("begin",), ("lock", 1, "x", "hold"), ("change", 2, "x", "change", 7))
    >>> first = ((), (), (("mark", "x", 0, (1, "locks", "hold")),))
    >>> first_untold({"x": 0}, some, first + ((("mark", "x", 1, (1, "locks", "hold")),),))[:4]
    ('untold', 4, 2, 'x')
    >>> second = ((("mark", "x", 0, (2, "changes", "change")), ("mark", "x", 1, (1, "locks", "hold"))),)
    >>> first_untold({"x": 0}, some, first + second)[:4]
    ('untold', 4, 1, 'x')
"""

RULES = """
    >>> from rowmarks.rules import Rules, told
    >>> some = Rules(reads="base", carries="none", marks="each", harder="beside", drops="ended", cleans="all", numbers="unnamed")
    >>> history = (("begin",), ("begin",), ("lock", 1, "x", "hold"), ("change", 2, "x", "change", 7), ("commit", 2))
    >>> [told(some, {"x": 0}, history[:-1], "x", "replace"), told(some, {"x": 0}, history, "x", "replace")]
    [[1, 2], []]
"""

TEXTS = r"""
    >>> from rowmarks.texts import history_text, read_marking
    >>> history_text((("begin",), ("change", 1, "x", "replace", -5)))
    'begin\nchange 1 x replace -5'
    >>> read_marking("at 1\nat 2\nset 3, 1 locks hold\nmark x 0 set 3")
    ((), (('set', 3, ((1, 'locks', 'hold'),)), ('mark', 'x', 0, 3)))
"""


class Examples(unittest.TestCase):
    def check(self, name, text):
        example = doctest.DocTestParser().get_doctest(text, {}, name, None, 0)
        told = []
        outcome = doctest.DocTestRunner(verbose=False).run(example, out=told.append)
        self.assertGreater(outcome.attempted, 0)
        self.assertEqual(outcome.failed, 0, "".join(told))

    def test_stage_1(self):
        self.check("modes", MODES)

    def test_stage_2(self):
        self.check("fates", FATES)

    def test_stage_3(self):
        self.check("canonical", CANONICAL)

    def test_stage_4(self):
        self.check("lock list", LOCK_LIST)

    def test_stage_6(self):
        self.check("store", STORE)
        self.check("handles", HANDLES)

    def test_stage_7(self):
        self.check("papers", PAPERS)

    def test_stage_8(self):
        self.check("markings", MARKINGS)

    def test_stage_9(self):
        self.check("telling", TELLING)

    def test_stage_10(self):
        self.check("rules", RULES)

    def test_stage_11(self):
        self.check("texts", TEXTS)


if __name__ == "__main__":
    unittest.main()
