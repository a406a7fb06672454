"""Markings of histories: the store's own, whether others fit, and what tells sets apart."""

from rowmarks.histories import check_history, do_stored
from rowmarks.marked import first_wrong
from rowmarks.members import canonical
from rowmarks.stores import Store


def marking(values, history):
    """The marking that the store's writes make."""
    check_history(values, history)
    store, found = Store(values), []
    for operation in history:
        do_stored(store, operation)
        found.append(store.writes())
    return tuple(found)


def written(values, history):
    """The sets that the store writes, as (operation, number, members), in order."""
    return [
        (at, write[1], write[2])
        for at, writes in enumerate(marking(values, history), 1)
        for write in writes
        if write[0] == "set"
    ]


def fewest_sets(values, history):
    """How many sets the store has written after each operation."""
    total, found = 0, []
    for writes in marking(values, history):
        total += len([write for write in writes if write[0] == "set"])
        found.append(total)
    return found


def reasons(values, history):
    """For each set that the store writes, why each earlier one could not be named instead."""
    check_history(values, history)
    store, earlier, found = Store(values), [], []
    for at, operation in enumerate(history, 1):
        do_stored(store, operation)
        if operation == ("clean",):
            earlier = [(members, at if is_needless(members, store) else lost) for members, lost in earlier]
        for write in store.writes():
            if write[0] == "set":
                found.append([reason(members, lost, write[2], store) for members, lost in earlier])
                earlier.append((write[2], None))
    return found


def is_needless(members, store):
    """Whether no version behind a cleaning can name a set with these members."""
    told = canonical(members, store)
    needs = [store.need(name, version) for name in store.names for version in store.current(name)]
    return len(told) < 2 or told not in needs


def reason(members, lost, later, store):
    """Why a set with some members does not serve for one that is written later."""
    # A set is written as the need that it is, so the later one reads as itself.
    told = canonical(members, store)
    only = sorted([member for member in told + later if member not in told or member not in later])
    return ("differs", only[0]) if len(only) > 0 else ("forgotten", lost)


def first_misfit(values, history, value):
    """Where a value is no marking, or its marks do not fit their needs; None if it fits."""
    return first_wrong(values, history, value, misfit_of)


def misfit_of(marked):
    """The first mark that does not fit its need, else None."""
    return marked.misfit()


def fits_history(values, history, value):
    """Whether a value is a marking of a history that fits."""
    return first_misfit(values, history, value) is None
