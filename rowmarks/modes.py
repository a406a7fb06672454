"""The four modes, their ranks, and which of them clash."""

from rowmarks.errors import BadMode

RANKS = {"hold": 1, "keep": 2, "change": 3, "replace": 4}
CHANGES = ("change", "replace")
CLASH = 5


def is_mode(value):
    """Whether a value is a mode, as a word."""
    return isinstance(value, str) and value in RANKS


def is_change(value):
    """Whether a value is a mode that a change of a row can have."""
    return value in CHANGES


def rank_of(word):
    """The rank of a mode; a lesser rank is weaker."""
    return RANKS[word]


def clash(word, other):
    """Whether two transactions cannot have these modes on one row."""
    return RANKS[word] + RANKS[other] >= CLASH


class Mode:
    """How strongly a row is locked or changed."""

    def __init__(self, word):
        if not is_mode(word):
            raise BadMode(word)
        self._word = word

    @property
    def word(self):
        """The mode as a word."""
        return self._word

    @property
    def rank(self):
        """The rank, from 1 for the weakest mode to 4 for the strongest."""
        return rank_of(self._word)

    def is_weaker(self, other):
        """Whether this mode is weaker than the other one."""
        return self.rank < other.rank

    def clashes(self, other):
        """Whether two transactions cannot have these modes on one row."""
        return clash(self.word, other.word)

    def __or__(self, other):
        return other if self.is_weaker(other) else self

    def __eq__(self, other):
        return isinstance(other, Mode) and self._word == other._word

    @staticmethod
    def strongest(words):
        """The strongest of some modes as words, None if there are none."""
        return max(words, key=rank_of, default=None)
