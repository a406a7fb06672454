"""The list of all locks and changes of rows, and who must wait for whom by it."""

from rowmarks.errors import BadValues
from rowmarks.holders import Holders
from rowmarks.kinds import are_names
from rowmarks.members import CHANGED, LOCKS
from rowmarks.modes import rank_of


class LockList(Holders):
    """Transactions that lock and change rows, with a list of all that they did."""

    def __init__(self, names):
        if not isinstance(names, (list, tuple)) or not are_names(names):
            raise BadValues(names)
        super().__init__(names)
        self._entries = []
        self._covers = []

    @property
    def names(self):
        """The names of the rows, ascending."""
        return self._names

    def lock(self, number, name, mode):
        """Locks a row."""
        self._check_lock(number, name, mode)
        self._check_way(number, name, mode)
        covering = self._covering(number, name, mode)
        self._enter(number, name, LOCKS, mode, covering)

    def change(self, number, name, mode):
        """Changes a row."""
        self._check_change(number, name, mode)
        self._check_way(number, name, mode)
        self._enter(number, name, CHANGED, mode, ())

    def skip(self):
        """An operation that locks and changes nothing, as a cleaning is one here."""
        self._count_operation()

    def entries(self):
        """All entries, tuples (part, name, word, mode), in order."""
        return list(self._entries)

    def is_idle(self, entry):
        """Whether the entry with this number was an idle lock."""
        return len(self._covers[entry]) > 0

    def covers(self, entry):
        """The earlier entries that made the entry with this number an idle lock."""
        return self._covers[entry]

    def profile(self, number, name):
        """The strongest mode of each open part of a transaction on a row."""
        return self._tell_profile(number, name)

    def blockers(self, name, mode, *, asker=None):
        """The transactions for which a request must wait, ascending."""
        return self._tell_blockers(name, mode, asker)

    def _held(self, name):
        return [(part, mode) for part, row, word, mode in self._entries if row == name]

    def _covering(self, number, name, mode):
        """The entries that hold a row for a transaction at least with this mode."""
        # Told now and kept, as their parts may be released or end later.
        reach, rank = self.parts(number), rank_of(mode)
        return tuple([
            at
            for at, (part, row, word, held) in enumerate(self._entries)
            if row == name and rank_of(held) >= rank and self.owner(part) in reach
        ])

    def _enter(self, number, name, word, mode, covering):
        self._count_operation()
        self._entries.append((self.parts(number)[-1], name, word, mode))
        self._covers.append(covering)
