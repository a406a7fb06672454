"""A second Fates, straight from points 4 and 5, to compare with.

Each part has a label: its root. A release gives all parts with the label of
the innermost one the label of the part around it, at once.
"""

OPERATIONS = ("save", "release", "back", "prepare", "commit", "abort")


class Naive:
    def __init__(self):
        self.operations = 0
        self.states = {}
        self.parts = {}

    def running(self):
        return [number for number, state in self.states.items() if state in ("running", "prepared")]

    def open_parts(self, number):
        return [
            part
            for part, row in self.parts.items()
            if row["holder"] == number and row["label"] == part and row["fate"] == "open"
        ]

    def refusal(self, word, number=None):
        """The name of the error and its value, None if the operation can be done."""
        if word == "crash":
            return None
        if word == "begin":
            return ("TooMany", 8) if len(self.running()) == 8 else None
        state = self.states.get(number)
        if state is None:
            return "UnknownTransaction", number
        if state not in ("running", "prepared"):
            return "Ended", number
        if word in ("commit", "abort"):
            return None
        if state == "prepared":
            return "Prepared", number
        many = len(self.open_parts(number))
        if word == "save":
            return ("TooMany", 5) if many == 5 else None
        if word == "prepare":
            return ("StillOpen", number) if many > 1 else None
        return ("FirstPart", number) if many == 1 else None

    def do(self, word, number=None):
        self.operations += 1
        if word == "begin":
            number = len(self.states) + 1
            self.states[number] = "running"
            self.add(number, None)
            return number
        if word == "save":
            return self.add(number, self.open_parts(number)[-1])
        if word == "prepare":
            self.states[number] = "prepared"
        elif word == "crash":
            for one, state in list(self.states.items()):
                if state == "running":
                    self.end(one, "aborted", "rolled back")
        elif word == "commit":
            self.end(number, "committed", "committed")
        elif word == "abort":
            self.end(number, "aborted", "rolled back")
        else:
            self.close(word, number)
        return None

    def add(self, number, around):
        part = len(self.parts) + 1
        self.parts[part] = {
            "holder": number, "around": around, "label": part, "fate": "open", "joined": None, "ended": None
        }
        return part

    def close(self, word, number):
        around, innermost = self.open_parts(number)[-2:]
        for row in self.parts.values():
            if row["label"] == innermost and word == "release":
                row["label"] = around
            elif row["label"] == innermost:
                row["fate"], row["ended"] = "rolled back", self.operations
        if word == "release":
            self.parts[innermost]["joined"] = self.operations

    def end(self, number, state, fate):
        self.states[number] = state
        for row in self.parts.values():
            if row["holder"] == number and row["fate"] == "open":
                row["fate"], row["ended"] = fate, self.operations

    def picture(self):
        return (
            self.operations,
            sum(state == "committed" for state in self.states.values()),
            self.running(),
            [(state, self.open_parts(number)) for number, state in self.states.items()],
            [
                (
                    row["holder"],
                    row["around"],
                    row["label"],
                    row["label"] if row["fate"] == "open" else None,
                    row["fate"],
                    row["joined"],
                    row["ended"],
                )
                for row in self.parts.values()
            ],
        )
