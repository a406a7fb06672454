"""The store: rows whose marks tell who holds them."""

from rowmarks.errors import BadMoment, BadValue, BadValues, UnknownVersion
from rowmarks.holders import Holders
from rowmarks.kinds import are_names, is_value, is_whole, is_within
from rowmarks.members import CHANGED, LOCKS, canonical, fits
from rowmarks.modes import rank_of
from rowmarks.rows import Row
from rowmarks.sets import SetBook


class Store(Holders):
    """Rows that transactions read, lock and change, without a table of locks."""

    def __init__(self, values):
        if not isinstance(values, dict) or not are_names(list(values)):
            raise BadValues(values)
        if not all([is_value(value) for value in values.values()]):
            raise BadValues(values)
        super().__init__(list(values))
        self._rows = {name: Row(values[name]) for name in self._names}
        self._book = SetBook()
        self._writes = []
        self._written = 0
        self._horizon = 0
        self._bases = [self._present_bases()]

    @property
    def names(self):
        """The names of the rows, ascending."""
        return self._names

    @property
    def horizon(self):
        """The earliest moment that can still be asked for."""
        return self._horizon

    def lock(self, number, name, mode):
        """Locks a row."""
        self._check_lock(number, name, mode)
        self._check_way(number, name, mode)
        idle = self._is_covered(number, name, mode)
        self._count_operation()
        if idle:
            return
        member = (self.parts(number)[-1], LOCKS, mode)
        for version in self._places(number, name):
            self._meet(name, version, self._with_member(name, version, member))

    def change(self, number, name, mode, value):
        """Changes a row, which makes a version."""
        self._check_change(number, name, mode)
        if not is_value(value):
            raise BadValue(value)
        self._check_way(number, name, mode)
        self._count_operation()
        row, part = self._rows[name], self.parts(number)[-1]
        last = row.newest(self)
        for_new = self._held_by_others(number, name, last)
        for_last = self._with_member(name, last, (part, CHANGED, mode))
        made = row.make(value, part, mode)
        self._meet(name, last, for_last)
        self._meet(name, made, for_new)

    def commit(self, number):
        """Commits every part that is not rolled back, which makes a moment."""
        super().commit(number)
        self._bases.append(self._present_bases())

    def move_horizon(self, moment):
        """Sets the horizon to a moment from itself to the present one."""
        self._check_moment(moment)
        self._count_operation()
        self._horizon = moment

    def clean(self):
        """Removes versions and forgets sets that nobody asks for any more."""
        self._count_operation()
        for name in self._names:
            self._clean_row(name)
        self._forget_unnamed()

    def profile(self, number, name):
        """The strongest mode of each open part of a transaction on a row."""
        return self._tell_profile(number, name)

    def blockers(self, name, mode, *, asker=None):
        """The transactions for which a request must wait, ascending."""
        return self._tell_blockers(name, mode, asker)

    def read(self, number, name):
        """The value of a row as a transaction sees it."""
        self._check_free(number)
        self._check_name(name)
        row = self._rows[name]
        version = row.newest(self) if row.changer(self) == number else row.base(self)
        return row[version][0]

    def at(self, moment):
        """The values of all rows at a moment."""
        self._check_moment(moment)
        bases = self._bases[moment]
        return {name: self._rows[name][bases[name]][0] for name in self._names}

    def versions(self, name):
        """All versions of a row that are left, ascending."""
        return self._row(name).kept()

    def version(self, name, version):
        """The value, the maker and the mode of a version."""
        return self._row(name)[version]

    def mark(self, name, version):
        """The mark of a version."""
        return self._row(name).mark(version)

    def need(self, name, version):
        """What the mark of a standing version from the base on must tell."""
        current = self.current(name)
        if not is_whole(version) or version not in current:
            raise UnknownVersion(version)
        # The marks fit behind each operation, so they tell their needs.
        return canonical(self.members(name, version), self)

    def base(self, name):
        """The last committed version of a row."""
        return self._row(name).base(self)

    def newest(self, name):
        """The last version of a row that stands."""
        return self._row(name).newest(self)

    def changer(self, name):
        """The transaction that made the versions behind the base, None if there are none."""
        return self._row(name).changer(self)

    def current(self, name):
        """The standing versions of a row from the base on, ascending."""
        row = self._row(name)
        base = row.base(self)
        return [version for version in row.standing(self) if version >= base]

    def members(self, name, version):
        """The members of the mark of a version."""
        return self._book.members(self.mark(name, version))

    def sets(self):
        """The members of all sets that there are, by their numbers."""
        return {number: self._book[number] for number in self._book.taken()}

    def writes(self):
        """What the last operation wrote, in order."""
        return tuple(self._writes)

    def written(self):
        """How many sets were written so far."""
        return self._written

    def _row(self, name):
        self._check_name(name)
        return self._rows[name]

    def _check_moment(self, moment):
        if not is_within(moment, self._horizon, self.moment()):
            raise BadMoment(moment)

    def _count_operation(self):
        super()._count_operation()
        self._writes = []

    def _present_bases(self):
        return {name: self._rows[name].base(self) for name in self._names}

    def _held(self, name):
        return [
            (part, mode) for version in self.current(name) for part, word, mode in self.members(name, version)
        ]

    def _is_covered(self, number, name, mode):
        """Whether a transaction holds a row already at least with this mode."""
        last = self.profile(number, name)[-1]
        return last is not None and rank_of(mode) <= rank_of(last)

    def _places(self, number, name):
        """The versions at which a lock of a transaction is written."""
        row = self._rows[name]
        return [row.newest(self)] if row.changer(self) == number else self.current(name)

    def _with_member(self, name, version, member):
        return canonical(self.members(name, version) + (member,), self)

    def _held_by_others(self, number, name, version):
        """The canonical locks of the other transactions, as a version tells them."""
        told = canonical(self.members(name, version), self)
        return tuple([
            member for member in told if member[1] == LOCKS and self.transaction(member[0]) != number
        ])

    def _meet(self, name, version, need):
        """Writes a mark if it does not fit its need."""
        if not fits(self.members(name, version), need, self):
            self._put_mark(name, version, self._mark_for(need))

    def _mark_for(self, need):
        if len(need) == 0:
            return None
        if len(need) == 1:
            return need[0]
        number = self._book.fitting(need, self)
        return self._write_set(need) if number is None else number

    def _write_set(self, need):
        number = self._book.write(need)
        self._written += 1
        self._writes.append(("set", number, need))
        return number

    def _put_mark(self, name, version, mark):
        self._rows[name].set_mark(version, mark)
        self._writes.append(("mark", name, version, mark))

    def _clean_row(self, name):
        row, current = self._rows[name], self.current(name)
        asked = [bases[name] for bases in self._bases[self._horizon:]]
        left = row.kept()
        for version in left:
            if version in current:
                self._renew(name, version)
            elif version in asked:
                row.set_mark(version, None)
            else:
                row.remove(version)

    def _renew(self, name, version):
        """Writes the plainest mark of a need, even over one that fits."""
        mark = self._mark_for(self.need(name, version))
        if mark != self.mark(name, version):
            self._put_mark(name, version, mark)

    def _forget_unnamed(self):
        named = [row.mark(version) for row in self._rows.values() for version in row.kept()]
        for number in self._book.taken():
            if number not in named:
                self._book.forget(number)
