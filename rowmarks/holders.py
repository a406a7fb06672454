"""Transactions that hold rows, and who must wait for whom by what they hold."""

from rowmarks.errors import BadMode, BadName, Blocked
from rowmarks.fates import Fates
from rowmarks.modes import Mode, clash, is_change, is_mode


def profile_of(number, held, fates):
    """The profile of a transaction on a row that is held by some (part, mode)."""
    owned = [(fates.owner(part), mode) for part, mode in held]
    told, modes = [], []
    for inner in fates.parts(number):
        # The modes of the parts around are still among them.
        modes.extend([mode for owner, mode in owned if owner == inner])
        told.append(Mode.strongest(modes))
    return tuple(told)


def strongest_held(held, fates):
    """The strongest mode of each transaction that holds a row, by some (part, mode)."""
    found = {}
    for part, mode in held:
        if fates.owner(part) is not None:
            number = fates.transaction(part)
            found[number] = Mode.strongest([mode, found.get(number, mode)])
    return found


class Holders(Fates):
    """Transactions that hold rows; each class below keeps in its own way what holds them."""

    def __init__(self, names):
        super().__init__()
        self._names = tuple(sorted(names))

    def _held(self, name):
        """All (part, mode) that may hold a row; here none does."""
        return []

    def _check_name(self, name):
        if name not in self._names:
            raise BadName(name)

    def _check_mode(self, mode):
        if not is_mode(mode):
            raise BadMode(mode)

    def _check_lock(self, number, name, mode):
        self._check_free(number)
        self._check_name(name)
        self._check_mode(mode)

    def _check_change(self, number, name, mode):
        self._check_free(number)
        self._check_name(name)
        if not is_change(mode):
            raise BadMode(mode)

    def _check_way(self, number, name, mode):
        numbers = self._in_the_way(number, name, mode)
        if len(numbers) > 0:
            raise Blocked(tuple(numbers))

    def _in_the_way(self, asker, name, mode):
        strongest = strongest_held(self._held(name), self)
        return sorted([number for number in strongest if number != asker and clash(strongest[number], mode)])

    def _tell_profile(self, number, name):
        self._check_known(number)
        self._check_name(name)
        return profile_of(number, self._held(name), self)

    def _tell_blockers(self, name, mode, asker):
        self._check_name(name)
        self._check_mode(mode)
        if asker is not None:
            self._check_known(asker)
        return self._in_the_way(asker, name, mode)
