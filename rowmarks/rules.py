"""Tables of rules of marking: what is read by them, and which are right."""

from rowmarks.errors import BadMode, BadName, BadRules, UnknownTransaction
from rowmarks.histories import check_history
from rowmarks.holders import strongest_held
from rowmarks.modes import RANKS, clash, is_mode
from rowmarks.ruled import Ruled
from rowmarks.samples import SAMPLES

FIELDS = (
    ("newest", "base", "every"),
    ("none", "others", "all"),
    ("base", "newest", "each"),
    ("beside", "instead", "outermost"),
    ("none", "ended", "joined"),
    ("all", "idle"),
    ("kept", "unnamed", "ended"),
)


def are_rules(words):
    """Whether seven values are the words of a table."""
    return all([word in field for word, field in zip(words, FIELDS)])


class Rules:
    """A table of rules of marking and reading."""

    def __init__(self, *, reads, carries, marks, harder, drops, cleans, numbers):
        words = (reads, carries, marks, harder, drops, cleans, numbers)
        if not are_rules(words):
            raise BadRules(words)
        self._words = words

    @property
    def words(self):
        """The seven words."""
        return self._words

    def __eq__(self, other):
        return isinstance(other, Rules) and self._words == other._words


def rules_of(words):
    """The table of seven words."""
    reads, carries, marks, harder, drops, cleans, numbers = words
    return Rules(
        reads=reads, carries=carries, marks=marks, harder=harder, drops=drops, cleans=cleans, numbers=numbers
    )


def every_table():
    """All tables, in the order of their words."""
    rows = [()]
    for field in FIELDS:
        rows = [row + (word,) for row in rows for word in field]
    for row in rows:
        yield rules_of(row)


def is_right(rules):
    """Whether every request is answered rightly behind every history."""
    reads, carries, marks, harder, drops, cleans, numbers = rules.words
    if harder != "beside" or drops == "joined" or numbers == "ended":
        return False
    if reads == "newest":
        return carries == "all" and marks == "each"
    if reads == "every" and cleans == "idle":
        return True
    return carries != "none" and marks == "each"


def ruled(rules, values, history):
    """The rows that a table marks, behind a history."""
    check_history(values, history)
    rows = Ruled(rules.words, values)
    for operation in history:
        rows.do(operation)
    return rows


def told(rules, values, history, name, mode, *, asker=None):
    """The transactions that a request is told to wait for, ascending."""
    rows = ruled(rules, values, history)
    check_name(rows, name)
    if not is_mode(mode):
        raise BadMode(mode)
    if asker is not None and not is_running(rows.some, asker):
        raise UnknownTransaction(asker)
    return answer(rows, name, mode, asker)


def told_by(rules, values, history, name):
    """For each lock and change what tells it, and for each thing that is told what it stands for."""
    rows = ruled(rules, values, history)
    check_name(rows, name)
    read = [(version, thing) for version in rows.read_versions(name) for thing in rows.things(name, version)]
    places = [(entry, place_of(rows.some.entries()[entry], read)) for entry in counting(rows.some, name)]
    return places, [(version, thing, rows.time_of(name, thing)) for version, thing in read]


def wrong_history(rules):
    """A history and a request that is answered wrongly behind it, None for a table that is right."""
    for history in SAMPLES:
        rows = ruled(rules, {"x": 0, "y": 0}, history)
        for name in rows.some.names:
            for mode in RANKS:
                if answer(rows, name, mode, None) != rows.some.blockers(name, mode):
                    return (history, (name, mode, None))
    return None


def check_name(rows, name):
    """Raises an error for what is no name of a row."""
    if name not in rows.some.names:
        raise BadName(name)


def is_running(fates, value):
    """Whether a value is the number of a running transaction."""
    return fates.is_transaction(value) and value in fates.running()


def answer(rows, name, mode, asker):
    """The transactions that are told to stand in the way of a request, ascending."""
    strongest = strongest_held(rows.held(name), rows.some)
    return sorted([number for number in strongest if number != asker and clash(strongest[number], mode)])


def counting(some, name):
    """The entries of a row that count and were no idle locks."""
    return [
        entry
        for entry, (part, row, word, mode) in enumerate(some.entries())
        if row == name and some.owner(part) is not None and not some.is_idle(entry)
    ]


def place_of(entry, read):
    """The least version that tells something with the part and the mode of an entry, None if none does."""
    part, _, _, mode = entry
    found = [version for version, thing in read if (thing[0], thing[2]) == (part, mode)]
    return found[0] if len(found) > 0 else None
