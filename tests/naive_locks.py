"""A second lock list and second canonical members, straight from points 7 to 9 and 16."""

from naive import Naive

RANKS = {"hold": 1, "keep": 2, "change": 3, "replace": 4}
CLASHES = {
    ("hold", "replace"), ("keep", "change"), ("keep", "replace"), ("change", "keep"), ("change", "change"),
    ("change", "replace"), ("replace", "hold"), ("replace", "keep"), ("replace", "change"), ("replace", "replace"),
}


def naive_canonical(members, naive):
    left = []
    for part, word, mode in members:
        row = naive.parts[part]
        if row["fate"] == "rolled back" or (word == "locks" and row["fate"] != "open"):
            continue
        left.append((row["label"], word, mode))
    found = {member for member in left if naive.parts[member[0]]["fate"] == "committed"}
    for number in naive.states:
        kept = set()
        for part in naive.open_parts(number):
            kept |= {member for member in left if member[:2] == (part, "changes")}
            locks = [member for member in left if member[:2] == (part, "locks")]
            if locks:
                best = max(locks, key=lambda member: RANKS[member[2]])
                if all(RANKS[best[2]] > RANKS[other[2]] for other in kept):
                    kept.add(best)
        found |= kept
    return tuple(sorted(found))


class NaiveLocks(Naive):
    def __init__(self, names):
        super().__init__()
        self.names = names
        self.list = []
        self.idle = {}

    def owner(self, part):
        return self.parts[part]["label"] if self.parts[part]["fate"] == "open" else None

    def inside_out(self, part):
        """A part and all the parts around it."""
        found = []
        while part is not None:
            found.append(part)
            part = self.parts[part]["around"]
        return found

    def last(self, number, name):
        profile = self.profile(number, name)
        return profile[-1] if profile else None

    def profile(self, number, name):
        told = []
        for part in self.open_parts(number):
            reach = self.inside_out(part)
            modes = [entry[3] for entry in self.list if entry[1] == name and self.owner(entry[0]) in reach]
            told.append(max(modes, key=lambda mode: RANKS[mode]) if modes else None)
        return tuple(told)

    def blockers(self, name, mode, asker):
        return [
            number for number in self.running() if number != asker and (self.last(number, name), mode) in CLASHES
        ]

    def request_refusal(self, word, number, name, mode):
        refusal = self.refusal("save", number)
        if refusal is not None and refusal[0] != "TooMany":
            return refusal
        if name not in self.names:
            return "BadName", name
        if mode not in RANKS or (word == "change" and RANKS[mode] < 3):
            return "BadMode", mode
        numbers = self.blockers(name, mode, number)
        return ("Blocked", tuple(numbers)) if numbers else None

    def request(self, word, number, name, mode):
        self.operations += 1
        part = self.open_parts(number)[-1]
        last = self.last(number, name)
        if word == "lock" and last is not None and RANKS[mode] <= RANKS[last]:
            reach = self.inside_out(part)
            self.idle[len(self.list)] = tuple(
                at
                for at, entry in enumerate(self.list)
                if entry[1] == name and self.owner(entry[0]) in reach and RANKS[entry[3]] >= RANKS[mode]
            )
        self.list.append((part, name, {"lock": "locks", "change": "changes"}[word], mode))

    def list_picture(self):
        return (
            self.picture(),
            list(self.list),
            [(at in self.idle, self.idle.get(at, ())) for at in range(len(self.list))],
            [[self.profile(number, name) for number in self.states] for name in self.names],
            [
                [self.blockers(name, mode, asker) for asker in [None, *self.states]]
                for name in self.names
                for mode in RANKS
            ],
        )
