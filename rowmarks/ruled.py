"""Histories whose rows are marked by a table of rules."""

from rowmarks.histories import do_listed
from rowmarks.locklists import LockList
from rowmarks.members import CHANGED, LOCKS
from rowmarks.rows import Row
from rowmarks.sets import SetBook

MADE = "made"


class Ruled:
    """Rows with marks by the seven words of a table, and the lock list beside them."""

    def __init__(self, words, values):
        self._reads, self._carries, self._where, self._harder, self._drops, self._cleans, self._numbers = words
        self.some = LockList(list(values))
        self._rows = {name: Row(values[name]) for name in self.some.names}
        self._book = SetBook()
        self._times = []

    def do(self, operation):
        """Does an operation and marks the rows."""
        match operation:
            case ("lock", number, name, mode):
                self._lock(operation, number, name, mode)
            case ("change", number, name, mode, value):
                self._change(operation, number, name, mode, value)
            case ("clean",):
                do_listed(self.some, operation)
                self._clean()
            case _:
                do_listed(self.some, operation)

    def read_versions(self, name):
        """The versions of a row that are read, ascending."""
        row = self._rows[name]
        if self._reads == "newest":
            return [row.newest(self.some)]
        return self._current(row) if self._reads == "base" else row.kept()

    def things(self, name, version):
        """What a version tells, in the order of its mark, what it was made by last."""
        row = self._rows[name]
        found = [member for member in self._members(row, version) if self._counts(member)]
        _, maker, mode = row[version]
        if maker is not None and self.some.owner(maker) is not None:
            found.append((maker, MADE, mode))
        return found

    def held(self, name):
        """What is told to hold a row, as (part, mode)."""
        return [
            (part, mode) for version in self.read_versions(name) for part, word, mode in self.things(name, version)
        ]

    def time_of(self, name, thing):
        """The last operation that locked or changed a row and that a thing stands for, else None."""
        part, word, mode = thing
        kinds = (LOCKS, CHANGED) if word == LOCKS else (CHANGED,)
        found = [
            time
            for entry, time in zip(self.some.entries(), self._times)
            if entry[:2] == (part, name) and entry[2] in kinds and entry[3] == mode
        ]
        return found[-1] if len(found) > 0 else None

    def _enter(self, operation):
        do_listed(self.some, operation)
        self._times.append(self.some.operations)

    def _lock(self, operation, number, name, mode):
        is_harder = self.some.profile(number, name)[-1] is not None
        self._enter(operation)
        if self.some.is_idle(len(self._times) - 1):
            return
        row, parts = self._rows[name], self.some.parts(number)
        part = parts[0] if is_harder and self._harder == "outermost" else parts[-1]
        for version in self._places(row, number):
            members = self._left(self._members(row, version))
            if is_harder and self._harder == "instead":
                members = [member for member in members if member[1] != LOCKS or not self._is_own(member, number)]
            self._write(row, version, members + [(part, LOCKS, mode)])

    def _change(self, operation, number, name, mode, value):
        self._enter(operation)
        row, part = self._rows[name], self.some.parts(number)[-1]
        last = row.newest(self.some)
        members = self._left(self._members(row, last))
        carried = self._carried(row, last, members, number)
        made = row.make(value, part, mode)
        self._write(row, last, members + [(part, CHANGED, mode)])
        self._write(row, made, carried)

    def _carried(self, row, last, members, number):
        """What the mark of a new version takes from the one before it."""
        locks = [member for member in members if member[1] == LOCKS and self._counts(member)]
        if self._carries == "none":
            return []
        if self._carries == "others":
            return [member for member in locks if not self._is_own(member, number)]
        _, maker, mode = row[last]
        if maker is not None and self.some.owner(maker) is not None:
            locks.append((maker, LOCKS, mode))
        return locks

    def _places(self, row, number):
        """The versions at which a lock of a transaction is written."""
        if row.changer(self.some) == number or self._where == "newest":
            return [row.newest(self.some)]
        return [row.base(self.some)] if self._where == "base" else self._current(row)

    def _current(self, row):
        base = row.base(self.some)
        return [version for version in row.standing(self.some) if version >= base]

    def _members(self, row, version):
        return self._book.members(row.mark(version))

    def _counts(self, member):
        return self.some.owner(member[0]) is not None

    def _is_own(self, member, number):
        return self.some.transaction(member[0]) == number

    def _left(self, members):
        """What the members of a mark lose before something is added."""
        return [member for member in members if not self._is_dropped(member)]

    def _is_dropped(self, member):
        part, word, _ = member
        if self._drops == "none":
            return False
        if word == CHANGED:
            return self.some.fate(part) == "rolled back"
        return self.some.owner(part) is None or (self._drops == "joined" and self.some.joined_at(part) is not None)

    def _write(self, row, version, members):
        if len(members) == 0:
            row.set_mark(version, None)
        elif len(members) == 1:
            row.set_mark(version, members[0])
        else:
            row.set_mark(version, self._book.write(members))

    def _clean(self):
        for row in self._rows.values():
            current, left = self._current(row), row.kept()
            for version in left:
                if version not in current and self._is_removed(row, version):
                    row.remove(version)
        self._forget()

    def _is_removed(self, row, version):
        return self._cleans == "all" or not self._is_alive(self._members(row, version))

    def _is_alive(self, members):
        return any([self._counts(member) for member in members])

    def _forget(self):
        named = [row.mark(version) for row in self._rows.values() for version in row.kept()]
        for number in self._book.taken():
            if self._numbers == "unnamed" and number not in named:
                self._book.forget(number)
            elif self._numbers == "ended" and not self._is_alive(self._book[number]):
                self._book.forget(number)
