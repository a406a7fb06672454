"""Texts of histories, markings and tables of rules."""

from rowmarks.errors import BadText
from rowmarks.histories import MOST_OPERATIONS, is_operation
from rowmarks.kinds import is_name, is_within
from rowmarks.marked import are_different, is_set_number
from rowmarks.members import is_member
from rowmarks.rules import FIELDS, are_rules, rules_of

LAST_VERSION = 1000000
MOST_DIGITS = 30


def history_text(history):
    """The text of a history."""
    return "\n".join([words_text(operation) for operation in history])


def marking_text(marking):
    """The text of a marking."""
    lines = []
    for at, writes in enumerate(marking, 1):
        lines.append(f"at {at}")
        lines.extend([write_text(write) for write in writes])
    return "\n".join(lines)


def rules_text(rules):
    """The text of a table of rules."""
    return words_text(rules.words)


def read_history(text):
    """The history that has a text."""
    found = []
    for at, line in enumerate(lines_of(text), 1):
        operation = operation_of(line)
        if operation is None or at > MOST_OPERATIONS:
            raise BadText(at)
        found.append(operation)
    return tuple(found)


def read_marking(text):
    """The marking that has a text."""
    found = []
    for at, line in enumerate(lines_of(text), 1):
        write = write_of(line)
        if write is not None and len(found) > 0:
            found[-1].append(write)
        elif line == f"at {len(found) + 1}" and len(found) < MOST_OPERATIONS:
            found.append([])
        else:
            raise BadText(at)
    return tuple([tuple(writes) for writes in found])


def read_rules(text):
    """The table of rules that has a text."""
    if not isinstance(text, str):
        raise BadText(1)
    line, *more = text.split("\n")
    words = line.split(" ")
    if len(words) != len(FIELDS) or not are_rules(words):
        raise BadText(1)
    if len(more) > 0:
        raise BadText(2)
    return rules_of(words)


def lines_of(text):
    """The lines of a text; the empty text has none."""
    if not isinstance(text, str):
        raise BadText(1)
    return text.split("\n") if len(text) > 0 else []


def words_text(words):
    """Some words and numbers in a line."""
    return " ".join([str(word) for word in words])


def write_text(write):
    """The line of a write."""
    if write[0] == "set":
        return ", ".join([f"set {write[1]}"] + [words_text(member) for member in write[2]])
    _, name, version, mark = write
    return f"mark {name} {version} {mark_text(mark)}"


def mark_text(mark):
    """The words of a mark."""
    if mark is None:
        return "none"
    return words_text(mark) if isinstance(mark, tuple) else f"set {mark}"


def numeral(word):
    """The integer that is written so, None if none is."""
    digits = word[1:] if word[:1] == "-" else word
    if not digits.isascii() or not digits.isdigit() or len(digits) > MOST_DIGITS:
        return None
    value = int(word)
    return value if str(value) == word else None


def operation_of(line):
    """The operation of a line, None if it has none."""
    # The second word of an operation is a number, and so is the value of a change.
    found = tuple([numeral(word) if at in (1, 4) else word for at, word in enumerate(line.split(" "))])
    return found if is_operation(found) else None


def write_of(line):
    """The write of a line, None if it has none."""
    head, *members = line.split(", ")
    word, *rest = head.split(" ")
    if word == "set" and len(rest) == 1:
        return set_of(numeral(rest[0]), [member_of(member.split(" ")) for member in members])
    if word == "mark" and len(rest) > 2 and len(members) == 0:
        return mark_of(rest[0], numeral(rest[1]), rest[2:])
    return None


def set_of(number, members):
    """The write of a set, None if it is none."""
    if not is_set_number(number) or None in members or not are_different(members):
        return None
    return ("set", number, tuple(members))


def mark_of(name, version, words):
    """The write of a mark, None if it is none."""
    if not is_name(name) or not is_within(version, 0, LAST_VERSION):
        return None
    if words == ["none"]:
        return ("mark", name, version, None)
    mark = member_of(words)
    if words[0] == "set" and len(words) == 2:
        number = numeral(words[1])
        mark = number if is_set_number(number) else None
    return None if mark is None else ("mark", name, version, mark)


def member_of(words):
    """The member of some words, None if they are none."""
    found = (numeral(words[0]), *words[1:])
    return found if is_member(found) else None
