"""The sets of members, each written once under a number."""

from rowmarks.errors import UnknownSet
from rowmarks.kinds import is_whole
from rowmarks.members import fits


class SetBook:
    """Sets of members by their numbers."""

    def __init__(self):
        self._sets = {}

    def write(self, members):
        """Writes a set with the least free number and returns this."""
        number = 1
        while number in self._sets:
            number += 1
        self.put(number, members)
        return number

    def put(self, number, members):
        """Writes a set with a number that no set has."""
        self._sets[number] = tuple(members)

    def forget(self, number):
        """Takes a set away; its number is free again."""
        self._check_taken(number)
        del self._sets[number]

    def taken(self):
        """The numbers that sets have, ascending."""
        return sorted(self._sets)

    def members(self, mark):
        """The members of a mark; one with the number of no set has none."""
        if mark is None:
            return ()
        if isinstance(mark, tuple):
            return (mark,)
        return self._sets.get(mark, ())

    def fitting(self, need, fates):
        """The least number of a set that fits the need, None if none does."""
        for number in self.taken():
            if fits(self._sets[number], need, fates):
                return number
        return None

    def _check_taken(self, number):
        if number not in self:
            raise UnknownSet(number)

    def __getitem__(self, number):
        self._check_taken(number)
        return self._sets[number]

    def __contains__(self, number):
        return is_whole(number) and number in self._sets

    def __len__(self):
        return len(self._sets)

    def __iter__(self):
        # Without this, Python would ask for the sets 0, 1, 2 and so on.
        raise TypeError("a book of sets is not iterated over")
