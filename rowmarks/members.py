"""Members of marks and sets, and the canonical ones of some of them."""

from rowmarks.kinds import is_within
from rowmarks.modes import is_change, is_mode, rank_of

LAST_PART = 1000000
LOCKS = "locks"
CHANGED = "changes"


def is_member(value):
    """Whether a value is a member, of any part."""
    if not isinstance(value, tuple) or len(value) != 3:
        return False
    part, word, mode = value
    if not is_within(part, 1, LAST_PART):
        return False
    return (word == LOCKS and is_mode(mode)) or (word == CHANGED and is_change(mode))


def canonical(members, fates):
    """The canonical members of some members, an ascending tuple."""
    kept, ranks = [], {}
    for member in sorted(rooted(members, fates), key=reading_place):
        number, rank = fates.transaction(member[0]), rank_of(member[2])
        # Committed changes need no care here: a transaction that has ended
        # has no locks left that they could cover.
        if member[1] == CHANGED or rank > ranks.get(number, 0):
            kept.append(member)
            ranks[number] = max(rank, ranks.get(number, 0))
    return tuple(sorted(set(kept)))


def fits(members, need, fates):
    """Whether the canonical members of some members are the need."""
    return canonical(members, fates) == need


def rooted(members, fates):
    """The members that still mean something, with the roots as their parts."""
    return [(fates.root(part), word, mode) for part, word, mode in members if means_something(part, word, fates)]


def means_something(part, word, fates):
    """Whether a lock is still owned, or a change is not rolled back."""
    if word == LOCKS:
        return fates.owner(part) is not None
    return fates.fate(part) != "rolled back"


def reading_place(member):
    """Orders members as they are read: outer parts, changes, strong locks first."""
    # Of the open parts of a transaction the inner ones have greater numbers.
    part, word, mode = member
    return (part, word != CHANGED, -rank_of(mode))
