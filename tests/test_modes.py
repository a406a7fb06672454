"""Point 3: the modes, their ranks, and which of them clash."""

import unittest

from rowmarks.errors import BadMode
from rowmarks.modes import Mode
from oddities import NO_NUMBERS, Stranger, twin

WORDS = ("hold", "keep", "change", "replace")
CLASHES = {
    ("hold", "replace"),
    ("keep", "change"),
    ("keep", "replace"),
    ("change", "keep"),
    ("change", "change"),
    ("change", "replace"),
    ("replace", "hold"),
    ("replace", "keep"),
    ("replace", "change"),
    ("replace", "replace"),
}
NEAR = (
    "Hold", "HOLD", "hold ", " hold", "hold\n", "holds", "hol", "h", "holdkeep", "hold keep",
    "keeps", "Keep", "changes", "chang", "CHANGE", "replaced", "Replace", "replac", "lock",
    "locks", "read", "write", "made", "1", "4", "None",
)
ODD = NO_NUMBERS + (1, 2, 3, 4, 5, ["hold"], ("hold",), {"hold": 1}, ("keep", "hold"), Stranger(), b"hold")


class Making(unittest.TestCase):
    def test_each_mode_keeps_its_word(self):
        self.assertEqual([Mode(word).word for word in WORDS], list(WORDS))

    def test_by_name(self):
        self.assertEqual(Mode(word="keep").word, "keep")

    def test_words_near_to_a_mode_are_none(self):
        for word in NEAR:
            with self.subTest(word), self.assertRaises(BadMode) as caught:
                Mode(word)
            self.assertIs(caught.exception.value, word)

    def test_values_of_all_kinds_are_none(self):
        for value in ODD:
            with self.subTest(repr(value)), self.assertRaises(BadMode) as caught:
                Mode(value)
            self.assertIs(caught.exception.value, value)

    def test_a_mode_is_no_word(self):
        mode = Mode("hold")
        with self.assertRaises(BadMode) as caught:
            Mode(mode)
        self.assertIs(caught.exception.value, mode)

    def test_word_and_rank_are_properties(self):
        for name in ("word", "rank"):
            self.assertIsInstance(vars(Mode)[name], property)


class Ranks(unittest.TestCase):
    def test_ranks(self):
        self.assertEqual([Mode(word).rank for word in WORDS], [1, 2, 3, 4])

    def test_weaker_over_all_pairs(self):
        for at, one in enumerate(WORDS):
            for place, other in enumerate(WORDS):
                with self.subTest(one=one, other=other):
                    self.assertIs(Mode(one).is_weaker(Mode(other)), at < place)
                    self.assertIs(Mode(one).is_weaker(other=Mode(other)), at < place)

    def test_clashes_over_all_pairs(self):
        for one in WORDS:
            for other in WORDS:
                with self.subTest(one=one, other=other):
                    self.assertIs(Mode(one).clashes(Mode(other)), (one, other) in CLASHES)
                    self.assertIs(Mode(one).clashes(other=Mode(other)), (one, other) in CLASHES)

    def test_the_stroke_over_all_pairs(self):
        for at, one in enumerate(WORDS):
            for place, other in enumerate(WORDS):
                with self.subTest(one=one, other=other):
                    both = Mode(one) | Mode(other)
                    self.assertIsInstance(both, Mode)
                    self.assertEqual(both.word, WORDS[max(at, place)])
                    self.assertEqual(both.rank, max(at, place) + 1)

    def test_the_stroke_changes_neither(self):
        one, other = Mode("hold"), Mode("change")
        self.assertEqual((one | other | one).word, "change")
        self.assertEqual((one.word, other.word), ("hold", "change"))


class Equality(unittest.TestCase):
    def test_all_pairs(self):
        for one in WORDS:
            for other in WORDS:
                with self.subTest(one=one, other=other):
                    self.assertIs(Mode(one) == Mode(other), one == other)
                    self.assertIs(Mode(one) != Mode(other), one != other)

    def test_values_that_are_no_mode(self):
        for word in WORDS:
            for value in ODD + WORDS + NEAR:
                with self.subTest(word=word, value=repr(value)):
                    self.assertIs(Mode(word) == value, False)
                    self.assertIs(value == Mode(word), False)
                    self.assertIs(Mode(word) != value, True)

    def test_an_object_that_also_has_a_word(self):
        stranger = Stranger()
        stranger.word, stranger._word, stranger.rank = "hold", "hold", 1
        self.assertIs(Mode("hold") == stranger, False)


class Strongest(unittest.TestCase):
    def test_none_one_and_several(self):
        self.assertIsNone(Mode.strongest([]))
        for word in WORDS:
            self.assertEqual(Mode.strongest([word]), word)
        self.assertEqual(Mode.strongest(["hold", "hold"]), "hold")
        self.assertEqual(Mode.strongest(["keep", "hold"]), "keep")
        self.assertEqual(Mode.strongest(["hold", "replace", "keep", "change"]), "replace")
        self.assertEqual(Mode.strongest(words=["change", "keep", "change"]), "change")

    def test_all_pairs(self):
        for at, one in enumerate(WORDS):
            for place, other in enumerate(WORDS):
                self.assertEqual(Mode.strongest([one, other]), WORDS[max(at, place)])

    def test_a_static_method_of_the_class(self):
        self.assertIsInstance(vars(Mode)["strongest"], staticmethod)
        self.assertEqual(Mode("hold").strongest(["keep", "hold"]), "keep")

    def test_the_list_is_not_changed(self):
        words = ["keep", "replace", "hold"]
        before = twin(words)
        Mode.strongest(words)
        self.assertEqual(words, before)


if __name__ == "__main__":
    unittest.main()
