"""Tables of rules done a second time, straight from points 20 to 22."""

from naive_locks import CLASHES, RANKS
from naive_store import NaiveStore

NAMES = ("reads", "carries", "marks", "harder", "drops", "cleans", "numbers")
WORDS = {
    "reads": ("newest", "base", "every"),
    "carries": ("none", "others", "all"),
    "marks": ("base", "newest", "each"),
    "harder": ("beside", "instead", "outermost"),
    "drops": ("none", "ended", "joined"),
    "cleans": ("all", "idle"),
    "numbers": ("kept", "unnamed", "ended"),
}


def naive_is_right(table):
    if table["harder"] != "beside" or table["drops"] == "joined" or table["numbers"] == "ended":
        return False
    return (
        (table["reads"] == "newest" and table["carries"] == "all" and table["marks"] == "each")
        or (table["reads"] == "base" and table["carries"] in ("others", "all") and table["marks"] == "each")
        or (table["reads"] == "every" and table["cleans"] == "idle")
        or (table["reads"] == "every" and table["carries"] in ("others", "all") and table["marks"] == "each")
    )


class NaiveRuled:
    """The lists of members of all versions are kept as they are; a set tells them only by its number."""

    def __init__(self, table, values):
        self.table = table
        self.naive = NaiveStore(values)
        self.versions = {name: {0: {"maker": None, "mode": None, "mark": None}} for name in values}
        self.made = {name: 0 for name in values}
        self.sets = {}
        self.times = []

    def owner(self, part):
        return self.naive.owner(part)

    def holder(self, part):
        return self.naive.parts[part]["holder"]

    def fate(self, name, version):
        maker = self.versions[name][version]["maker"]
        return "committed" if maker is None else self.naive.parts[maker]["fate"]

    def current(self, name):
        base = max(version for version in self.versions[name] if self.fate(name, version) == "committed")
        return [one for one in sorted(self.versions[name]) if one >= base and self.fate(name, one) != "rolled back"]

    def members(self, name, version):
        mark = self.versions[name][version]["mark"]
        if isinstance(mark, tuple):
            return [mark]
        return list(self.sets.get(mark, []))

    def put(self, name, version, members):
        mark = None
        if len(members) == 1:
            mark = members[0]
        elif members:
            mark = min(number for number in range(1, 10 ** 4) if number not in self.sets)
            self.sets[mark] = list(members)
        self.versions[name][version]["mark"] = mark

    def dropped(self, members):
        left = []
        for part, word, mode in members:
            dead = self.owner(part) is None if word == "locks" else self.naive.parts[part]["fate"] == "rolled back"
            joined = word == "locks" and self.naive.parts[part]["joined"] is not None
            if self.table["drops"] == "none" or not (dead or (joined and self.table["drops"] == "joined")):
                left.append((part, word, mode))
        return left

    def perform(self, operation):
        word = operation[0]
        last = self.naive.last(*operation[1:3]) if word == "lock" else None
        self.naive.perform(operation)
        if word == "lock":
            self.times.append(self.naive.operations)
            if len(self.naive.list) - 1 not in self.naive.idle:
                self.lock(operation[1], operation[2], operation[3], last is not None)
        elif word == "change":
            self.times.append(self.naive.operations)
            self.change(*operation[1:4])
        elif word == "clean":
            self.clean()

    def lock(self, number, name, mode, harder):
        current, parts = self.current(name), self.naive.open_parts(number)
        maker = self.versions[name][current[-1]]["maker"]
        if maker is not None and self.holder(maker) == number:
            places = current[-1:]
        else:
            places = {"base": current[:1], "newest": current[-1:], "each": current}[self.table["marks"]]
        for version in places:
            members = self.dropped(self.members(name, version))
            part = parts[-1]
            if harder and self.table["harder"] == "instead":
                members = [one for one in members if one[1] == "changes" or self.holder(one[0]) != number]
            if harder and self.table["harder"] == "outermost":
                part = parts[0]
            self.put(name, version, members + [(part, "locks", mode)])

    def change(self, number, name, mode):
        newest, part = self.current(name)[-1], self.naive.open_parts(number)[-1]
        before = self.dropped(self.members(name, newest))
        owned = [one for one in before if one[1] == "locks" and self.owner(one[0]) is not None]
        taken = {"none": [], "others": [one for one in owned if self.holder(one[0]) != number], "all": owned}[self.table["carries"]]
        made = self.versions[name][newest]
        if self.table["carries"] == "all" and made["maker"] is not None and self.owner(made["maker"]) is not None:
            taken = taken + [(made["maker"], "locks", made["mode"])]
        self.made[name] += 1
        self.versions[name][self.made[name]] = {"maker": part, "mode": mode, "mark": None}
        self.put(name, newest, before + [(part, "changes", mode)])
        self.put(name, self.made[name], taken)

    def alive(self, members):
        return any(self.owner(one[0]) is not None for one in members)

    def clean(self):
        for name in self.naive.names:
            current = self.current(name)
            for version in sorted(self.versions[name]):
                if version not in current and not (self.table["cleans"] == "idle" and self.alive(self.members(name, version))):
                    del self.versions[name][version]
        named = [row["mark"] for rows in self.versions.values() for row in rows.values()]
        for number in list(self.sets):
            unnamed = self.table["numbers"] == "unnamed" and number not in named
            ended = self.table["numbers"] == "ended" and not self.alive(self.sets[number])
            if unnamed or ended:
                del self.sets[number]

    def read(self, name):
        """All that is told, as (version, thing)."""
        versions = {"newest": self.current(name)[-1:], "base": self.current(name), "every": sorted(self.versions[name])}
        found = []
        for version in versions[self.table["reads"]]:
            row = self.versions[name][version]
            found.extend((version, one) for one in self.members(name, version) if self.owner(one[0]) is not None)
            if row["maker"] is not None and self.owner(row["maker"]) is not None:
                found.append((version, (row["maker"], "made", row["mode"])))
        return found

    def kept(self):
        """All marks and all sets, as they are kept."""
        return {name: {version: row["mark"] for version, row in rows.items()} for name, rows in self.versions.items()}, self.sets

    def told(self, name, mode, asker):
        found = {self.holder(thing[0]) for _, thing in self.read(name) if (thing[2], mode) in CLASHES}
        return sorted(found - {asker})

    def told_by(self, name):
        first, read = [], self.read(name)
        for at, (part, row, _, mode) in enumerate(self.naive.list):
            if row == name and self.owner(part) is not None and at not in self.naive.idle:
                first.append((at, min((version for version, thing in read if thing[::2] == (part, mode)), default=None)))
        second = [(version, thing, self.time_of(name, thing)) for version, thing in read]
        return first, second

    def time_of(self, name, thing):
        last = None
        for time, (part, row, word, mode) in zip(self.times, self.naive.list):
            if (part, row, mode) == (thing[0], name, thing[2]) and (thing[1] == "locks" or word == "changes"):
                last = time
        return last

    def wrong_requests(self):
        return [
            (name, mode, asker)
            for name in self.naive.names
            for mode in RANKS
            for asker in [None, *self.naive.running()]
            if self.told(name, mode, asker) != self.naive.blockers(name, mode, asker)
        ]
