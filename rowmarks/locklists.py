"""The list of all locks and changes of rows, and who must wait for whom by it."""

from rowmarks.errors import BadMode, BadName, BadValues, Blocked
from rowmarks.fates import Fates
from rowmarks.kinds import are_names
from rowmarks.members import CHANGED, LOCKS
from rowmarks.modes import Mode, clash, is_change, is_mode, rank_of


def profile_of(number, held, fates):
    """The profile of a transaction on a row that is held by some (part, mode)."""
    owned = [(fates.owner(part), mode) for part, mode in held]
    told, modes = [], []
    for inner in fates.parts(number):
        # The modes of the parts around are still among them.
        modes.extend([mode for owner, mode in owned if owner == inner])
        told.append(Mode.strongest(modes))
    return tuple(told)


def strongest_held(held, fates):
    """The strongest mode of each transaction that holds a row, by some (part, mode)."""
    found = {}
    for part, mode in held:
        if fates.owner(part) is not None:
            number = fates.transaction(part)
            found[number] = Mode.strongest([mode, found.get(number, mode)])
    return found


class LockList(Fates):
    """Transactions that lock and change rows, with a list of all that they did."""

    def __init__(self, names):
        super().__init__()
        if not isinstance(names, (list, tuple)) or not are_names(names):
            raise BadValues(names)
        self._names = tuple(sorted(names))
        self._entries = []
        self._covers = []

    @property
    def names(self):
        """The names of the rows, ascending."""
        return self._names

    def lock(self, number, name, mode):
        """Locks a row."""
        self._check_free(number)
        self._check_name(name)
        self._check_mode(mode)
        self._check_way(number, name, mode)
        covering = self._covering(number, name, mode)
        self._enter(number, name, LOCKS, mode, covering)

    def change(self, number, name, mode):
        """Changes a row."""
        self._check_free(number)
        self._check_name(name)
        if not is_change(mode):
            raise BadMode(mode)
        self._check_way(number, name, mode)
        self._enter(number, name, CHANGED, mode, ())

    def entries(self):
        """All entries, tuples (part, name, word, mode), in order."""
        return list(self._entries)

    def is_idle(self, entry):
        """Whether the entry with this number was an idle lock."""
        return len(self._covers[entry]) > 0

    def covers(self, entry):
        """The earlier entries that made the entry with this number an idle lock."""
        return self._covers[entry]

    def profile(self, number, name):
        """The strongest mode of each open part of a transaction on a row."""
        self._check_known(number)
        self._check_name(name)
        return profile_of(number, self._held(name), self)

    def blockers(self, name, mode, *, asker=None):
        """The transactions for which a request must wait, ascending."""
        self._check_name(name)
        self._check_mode(mode)
        if asker is not None:
            self._check_known(asker)
        return self._in_the_way(asker, name, mode)

    def _check_name(self, name):
        if name not in self._names:
            raise BadName(name)

    def _check_mode(self, mode):
        if not is_mode(mode):
            raise BadMode(mode)

    def _check_way(self, number, name, mode):
        numbers = self._in_the_way(number, name, mode)
        if len(numbers) > 0:
            raise Blocked(tuple(numbers))

    def _in_the_way(self, asker, name, mode):
        strongest = strongest_held(self._held(name), self)
        return sorted([number for number in strongest if number != asker and clash(strongest[number], mode)])

    def _held(self, name):
        return [(part, mode) for part, row, word, mode in self._entries if row == name]

    def _covering(self, number, name, mode):
        """The entries that hold a row for a transaction at least with this mode."""
        # Told now and kept, as their parts may be released or end later.
        reach, rank = self.parts(number), rank_of(mode)
        return tuple([
            at
            for at, (part, row, word, held) in enumerate(self._entries)
            if row == name and rank_of(held) >= rank and self.owner(part) in reach
        ])

    def _enter(self, number, name, word, mode, covering):
        self._count_operation()
        self._entries.append((self.parts(number)[-1], name, word, mode))
        self._covers.append(covering)
