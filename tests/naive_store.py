"""A second store, straight from points 6 and 10 to 13, which reads its needs from a lock list."""

from naive_locks import NaiveLocks, naive_canonical


class NaiveStore(NaiveLocks):
    def __init__(self, values):
        super().__init__(tuple(sorted(values)))
        self.rows = {name: {0: {"value": values[name], "maker": None, "mode": None, "mark": None}} for name in self.names}
        self.made = {name: 0 for name in self.names}
        self.sets = {}
        self.written = 0
        self.writes = []
        self.newest_then = []
        self.moments = [{name: 0 for name in self.names}]
        self.told_values = [dict(values)]
        self.horizon = 0

    # What the versions are.

    def version_fate(self, name, version):
        maker = self.rows[name][version]["maker"]
        return "committed" if maker is None else self.parts[maker]["fate"]

    def base(self, name):
        return max(version for version in self.rows[name] if self.version_fate(name, version) == "committed")

    def current(self, name):
        base = self.base(name)
        return [
            version
            for version in sorted(self.rows[name])
            if version >= base and self.version_fate(name, version) != "rolled back"
        ]

    def changer(self, name):
        makers = [self.rows[name][version]["maker"] for version in self.current(name)[1:]]
        holders = {self.parts[maker]["holder"] for maker in makers}
        assert len(holders) <= 1
        return holders.pop() if holders else None

    # What the marks must tell.

    def need(self, name, version):
        current, changer = self.current(name), self.changer(name)
        found = []
        for at, (part, row, word, mode) in enumerate(self.list):
            if row != name or word != "locks" or at in self.idle:
                continue
            if self.parts[part]["holder"] == changer:
                earlier = [one for one in current if one <= self.newest_then[at]]
                if version != (earlier[-1] if earlier else current[0]):
                    continue
            found.append((part, word, mode))
        for one in current:
            if one > version:
                found.append((self.rows[name][one]["maker"], "changes", self.rows[name][one]["mode"]))
                break
        return naive_canonical(found, self)

    def members(self, mark):
        if mark is None:
            return ()
        return (mark,) if isinstance(mark, tuple) else self.sets[mark]

    def told(self, name, version):
        return naive_canonical(self.members(self.rows[name][version]["mark"]), self)

    def mark_for(self, need):
        if len(need) < 2:
            return need[0] if need else None
        fitting = [number for number in self.sets if naive_canonical(self.sets[number], self) == need]
        if fitting:
            return min(fitting)
        number = next(number for number in range(1, 10 ** 6) if number not in self.sets)
        self.sets[number] = need
        self.written += 1
        self.writes.append(("set", number, need))
        return number

    def look(self, name, version):
        need = self.need(name, version)
        if self.told(name, version) != need:
            self.put(name, version, self.mark_for(need))

    def put(self, name, version, mark):
        self.rows[name][version]["mark"] = mark
        self.writes.append(("mark", name, version, mark))

    # Operations.

    def do(self, word, number=None):
        self.writes = []
        told = super().do(word, number)
        if word == "commit":
            self.moments.append({name: self.base(name) for name in self.names})
            self.told_values.append({name: self.rows[name][self.base(name)]["value"] for name in self.names})
        return told

    def request(self, word, number, name, mode, value=None):
        self.writes = []
        newest = self.current(name)[-1]
        places = [newest] if word == "change" or self.changer(name) == number else self.current(name)
        super().request(word, number, name, mode)
        self.newest_then.append(newest)
        if len(self.list) - 1 in self.idle:
            return
        if word == "change":
            self.made[name] += 1
            maker = self.open_parts(number)[-1]
            self.rows[name][self.made[name]] = {"value": value, "maker": maker, "mode": mode, "mark": None}
            places.append(self.made[name])
        for version in places:
            self.look(name, version)

    def move_horizon(self, moment):
        self.operations += 1
        self.writes = []
        self.horizon = moment

    def clean(self):
        self.operations += 1
        self.writes = []
        for name in self.names:
            current = self.current(name)
            asked = {bases[name] for bases in self.moments[self.horizon:]}
            for version in sorted(self.rows[name]):
                if version in current:
                    mark = self.mark_for(self.need(name, version))
                    if mark != self.rows[name][version]["mark"]:
                        self.put(name, version, mark)
                elif version in asked and version < current[0] and self.version_fate(name, version) != "rolled back":
                    self.rows[name][version]["mark"] = None
                else:
                    del self.rows[name][version]
        named = [row["mark"] for rows in self.rows.values() for row in rows.values()]
        self.sets = {number: members for number, members in self.sets.items() if number in named}

    def read(self, number, name):
        current = self.current(name)
        return self.rows[name][current[-1] if self.changer(name) == number else current[0]]["value"]

    def full_refusal(self, operation):
        """The name of the error of an operation by its form and its value, None if it can be done."""
        word, *rest = operation
        if word == "clean":
            return None
        if word == "horizon":
            return None if self.horizon <= rest[0] < len(self.moments) else ("BadMoment", rest[0])
        if word in ("lock", "change"):
            return self.request_refusal(word, *rest[:3])
        return self.refusal(word, *rest)

    def perform(self, operation):
        word, *rest = operation
        if word == "clean":
            return self.clean()
        if word == "horizon":
            return self.move_horizon(*rest)
        if word in ("lock", "change"):
            return self.request(word, *rest)
        return self.do(word, *rest)

    def row_pictures(self):
        return {
            name: (
                {version: (row["value"], row["maker"], row["mode"], row["mark"]) for version, row in self.rows[name].items()},
                self.base(name),
                self.current(name)[-1],
                self.changer(name),
                {version: self.need(name, version) for version in self.current(name)},
            )
            for name in self.names
        }

    def store_picture(self):
        return (
            self.picture(),
            self.row_pictures(),
            dict(self.sets),
            tuple(self.writes),
            self.written,
            self.horizon,
            {moment: self.told_values[moment] for moment in range(self.horizon, len(self.moments))},
        )

    def answers(self):
        """What the lock list says of profiles and blockers."""
        return [
            (
                [self.profile(number, name) for number in self.states],
                [[self.blockers(name, mode, asker) for asker in [None, *self.states]] for mode in ("hold", "keep", "change", "replace")],
            )
            for name in self.names
        ]
