"""One row with its versions, their makers and their marks."""

from rowmarks.errors import UnknownVersion
from rowmarks.kinds import is_whole


class Row:
    """The versions of a row, numbered from 0 in the order of their making."""

    def __init__(self, value):
        self._versions = {0: (value, None, None)}
        self._marks = {0: None}
        self._made = 1

    def make(self, value, part, mode):
        """Makes a version and returns its number."""
        number = self._made
        # Counted apart from what is left, as no number is given again.
        self._made += 1
        self._versions[number] = (value, part, mode)
        self._marks[number] = None
        return number

    def standing(self, fates):
        """The versions that are left and not rolled back, ascending."""
        return [number for number in self.kept() if self._fate(number, fates) != "rolled back"]

    def base(self, fates):
        """The last committed version, 0 if there is none."""
        return max([number for number in self.kept() if self._fate(number, fates) == "committed"], default=0)

    def newest(self, fates):
        """The last version that stands."""
        return max(self.standing(fates), default=0)

    def changer(self, fates):
        """The transaction that made the versions behind the base, None if there are none."""
        newest = self.newest(fates)
        if newest == self.base(fates):
            return None
        return fates.transaction(self._versions[newest][1])

    def kept(self):
        """All versions that are left, ascending."""
        return list(self._versions)

    def mark(self, number):
        """The mark of a version."""
        self._check_left(number)
        return self._marks[number]

    def set_mark(self, number, mark):
        """Puts a mark at a version."""
        self._check_left(number)
        self._marks[number] = mark

    def remove(self, number):
        """Takes a version away with its mark."""
        self._check_left(number)
        del self._versions[number], self._marks[number]

    def _check_left(self, number):
        if not is_whole(number) or number not in self._versions:
            raise UnknownVersion(number)

    def _fate(self, number, fates):
        # The first version has no maker and is there for good.
        maker = self._versions[number][1]
        return "committed" if maker is None else fates.fate(maker)

    def __getitem__(self, number):
        self._check_left(number)
        return self._versions[number]

    def __iter__(self):
        # Without this, Python would ask for the versions 0, 1, 2 and so on.
        raise TypeError("a row is not iterated over")
