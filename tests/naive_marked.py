"""Markings judged a second time, straight from points 17 and 18, with the needs of a lock list."""

from naive_locks import RANKS, naive_canonical
from naive_store import NaiveStore


class NaiveMarked:
    def __init__(self, values):
        self.naive = NaiveStore(values)
        self.marks = {(name, 0): None for name in self.naive.names}
        self.sets = {}

    def member(self, value):
        if not isinstance(value, tuple) or len(value) != 3 or isinstance(value[0], bool):
            return False
        modes = {"locks": list(RANKS), "changes": ["change", "replace"]}
        return (
            isinstance(value[0], int) and 1 <= value[0] <= len(self.naive.parts)
            and isinstance(value[1], str) and value[2] in modes.get(value[1], [])
        )

    def members(self, mark):
        if mark is None:
            return ()
        return (mark,) if isinstance(mark, tuple) else self.sets[mark]

    def number(self, value):
        return isinstance(value, int) and not isinstance(value, bool)

    def write(self, value):
        """Does a write; tells whether it is one."""
        if not isinstance(value, tuple) or not value:
            return False
        if value[0] == "set" and len(value) == 3:
            _, number, members = value
            if not self.number(number) or not 0 < number <= 10 ** 6 or number in self.sets:
                return False
            if not isinstance(members, tuple) or len(members) > 40 or not all(map(self.member, members)):
                return False
            self.sets[number] = members
            return len(set(members)) == len(members)
        if value[0] == "mark" and len(value) == 4:
            _, name, version, mark = value
            if name not in self.naive.names or not self.number(version) or version not in self.naive.current(name):
                return False
            self.marks[name, version] = mark
            return mark is None or self.member(mark) or (self.number(mark) and mark in self.sets)
        return False

    def step(self, operation, writes):
        """The place of the first write that is none, None if all are."""
        self.naive.perform(operation)
        for name in self.naive.names:
            for version in self.naive.rows[name]:
                self.marks.setdefault((name, version), None)
            if operation == ("clean",):
                for version in range(self.naive.made[name] + 1):
                    if version not in self.naive.current(name):
                        self.marks.pop((name, version), None)
        for at, write in enumerate(writes):
            if not self.write(write):
                return at
        if operation == ("clean",):
            named = [mark for (name, version), mark in self.marks.items() if version in self.naive.rows[name]]
            self.sets = {number: members for number, members in self.sets.items() if number in named}
        return None

    def told(self, name, version):
        return naive_canonical(self.members(self.marks[name, version]), self.naive)

    def misfit(self):
        for name in self.naive.names:
            for version in self.naive.current(name):
                told, need = set(self.told(name, version)), set(self.naive.need(name, version))
                if told - need:
                    return name, version, "mark", min(told - need)
                if need - told:
                    return name, version, "need", min(need - told)
        return None

    def profile(self, number, name):
        found = []
        held = [member for version in self.naive.current(name) for member in self.members(self.marks[name, version])]
        for part in self.naive.open_parts(number):
            reach = self.naive.inside_out(part)
            modes = [mode for one, _, mode in held if self.naive.owner(one) in reach]
            found.append(max(modes, key=lambda mode: RANKS[mode]) if modes else None)
        return tuple(found)

    def wrong_profiles(self):
        return [
            (number, name)
            for number in self.naive.running()
            for name in self.naive.names
            if self.profile(number, name) != self.naive.profile(number, name)
        ]

    def possible_ends(self):
        """Each end that is possible now."""
        found = [("crash",)]
        for number in self.naive.running():
            for word in ("release", "back", "commit", "abort"):
                if self.naive.refusal(word, number) is None:
                    found.append((word, number))
        return found


def naive_first_misfit(values, history, value):
    if not isinstance(value, tuple) or len(value) != len(history) or not all(isinstance(one, tuple) for one in value):
        return ("form",)
    marked = NaiveMarked(values)
    for at, operation in enumerate(history, 1):
        index = marked.step(operation, value[at - 1])
        if index is not None:
            return "write", at, index
        misfit = marked.misfit()
        if misfit is not None:
            return ("misfit", at, *misfit)
    return None
