"""Histories whose marks somebody else writes."""

from rowmarks.histories import check_history, do_stored
from rowmarks.kinds import is_whole, is_within
from rowmarks.members import canonical, is_member
from rowmarks.sets import SetBook
from rowmarks.stores import Store

LAST_SET = 1000000
MOST_MEMBERS = 40


def is_set_number(value):
    """Whether a value is a number that a set can have."""
    return is_within(value, 1, LAST_SET)


def are_different(members):
    """Whether some members are few enough for a set, and none of them stands twice."""
    return len(members) <= MOST_MEMBERS and len(set(members)) == len(members)


def has_form(value, history):
    """Whether a value is a tuple that has a tuple for each operation."""
    if not isinstance(value, tuple) or len(value) != len(history):
        return False
    return all([isinstance(writes, tuple) for writes in value])


def first_wrong(values, history, value, look):
    """Where a value is no marking, or what a look at the marks behind an operation finds; else None."""
    check_history(values, history)
    if not has_form(value, history):
        return ("form",)
    marked = Marked(values)
    for at, operation in enumerate(history, 1):
        index = marked.step(operation, value[at - 1])
        if index is not None:
            return ("write", at, index)
        found = look(marked)
        if found is not None:
            return (found[0], at, *found[1:])
    return None


class Marked:
    """A store, and beside its own marks those that a marking writes."""

    def __init__(self, values):
        self.store = Store(values)
        self._book = SetBook()
        self._marks = {name: {} for name in self.store.names}

    def step(self, operation, writes):
        """Does an operation and its writes; returns the place of the first that is none, else None."""
        do_stored(self.store, operation)
        self._follow_versions()
        for at, write in enumerate(writes):
            if not self._is_write(write):
                return at
            self._put(write)
        if operation == ("clean",):
            self._forget_unnamed()
        return None

    def misfit(self):
        """The first mark that does not fit its need: ("misfit", name, version, side, member), else None."""
        for name in self.store.names:
            for version in self._marks[name]:
                wrong = self._wrong_member(name, version)
                if wrong is not None:
                    return ("misfit", name, version, *wrong)
        return None

    def held(self, name, versions):
        """What the marks of some versions tell to hold the row, as (part, mode)."""
        return [
            (part, mode) for version in versions for part, word, mode in self._book.members(self._marks[name][version])
        ]

    def _follow_versions(self):
        # A version that does not stand or is ahead of the base is never read again.
        for name in self.store.names:
            marks = self._marks[name]
            self._marks[name] = {version: marks.get(version) for version in self.store.current(name)}

    def _is_write(self, value):
        if not isinstance(value, tuple) or len(value) == 0:
            return False
        if value[0] == "set":
            return len(value) == 3 and self._is_free(value[1]) and self._are_members(value[2])
        if value[0] != "mark" or len(value) != 4:
            return False
        return self._is_version(value[1], value[2]) and self._is_mark(value[3])

    def _is_free(self, value):
        return is_set_number(value) and value not in self._book

    def _are_members(self, value):
        if not isinstance(value, tuple) or not all([self._is_opened(member) for member in value]):
            return False
        return are_different(value)

    def _is_version(self, name, version):
        return name in self.store.names and is_whole(version) and version in self._marks[name]

    def _is_mark(self, value):
        return value is None or value in self._book or self._is_opened(value)

    def _is_opened(self, value):
        return is_member(value) and self.store.is_part(value[0])

    def _put(self, write):
        if write[0] == "set":
            self._book.put(write[1], write[2])
        else:
            self._marks[write[1]][write[2]] = write[3]

    def _forget_unnamed(self):
        named = [mark for marks in self._marks.values() for mark in marks.values()]
        for number in self._book.taken():
            if number not in named:
                self._book.forget(number)

    def _wrong_member(self, name, version):
        told = canonical(self._book.members(self._marks[name][version]), self.store)
        need = self.store.need(name, version)
        for side, has, lacks in (("mark", told, need), ("need", need, told)):
            only = [member for member in has if member not in lacks]
            if len(only) > 0:
                return side, only[0]
        return None
