"""Whether a marking tells who holds what, whatever ends come next."""

from rowmarks.errors import UnknownTransaction
from rowmarks.histories import check_history
from rowmarks.holders import profile_of
from rowmarks.marked import Marked, first_wrong


def told_profile(values, history, value, number, name):
    """The profile that the marks of a marking tell behind a history."""
    check_history(values, history)
    marked = Marked(values)
    for operation, writes in zip(history, value):
        marked.step(operation, writes)
    if not marked.store.is_transaction(number):
        raise UnknownTransaction(number)
    versions = marked.store.current(name)
    return profile_of(number, marked.held(name, versions), marked.store)


def first_untold(values, history, value):
    """Where a value is no marking, or its marks tell wrongly; None if it tells."""
    return first_wrong(values, history, value, told_wrongly)


def tells_history(values, history, value):
    """Whether a value is a marking of a history that tells."""
    return first_untold(values, history, value) is None


def told_wrongly(marked):
    """The first transaction and row that are told wrongly, with ends that show it, else None."""
    for number in marked.store.running():
        for name in marked.store.names:
            ends = ends_against(marked, number, name)
            if ends is not None:
                return ("untold", number, name, ends)
    return None


def ends_against(marked, number, name):
    """Ends behind which a transaction is told wrongly on a row, None if there are none."""
    # The store's own marks fit, so they tell what the lock list says.
    right = marked.store.profile(number, name)
    for ends, versions, many in futures(marked.store, number, name):
        told = profile_of(number, marked.held(name, versions), marked.store)
        if told[:many] != right[:many]:
            return ends
    return None


def futures(store, number, name):
    """What ends can make of a row, as (ends, versions, how many parts the transaction has left).

    Only the ends of the changer change which versions are read. What is told of
    the outer parts of a transaction does not depend on its inner ones, and a
    release leaves the rest of a profile as it is. So it is enough to look at the
    changer's going back, its commit and its abort.
    """
    changer, current, many = store.changer(name), store.current(name), len(store.parts(number))
    if changer is None:
        return [((), current, many)]
    found = []
    for times in range(len(store.parts(changer))):
        backs, left = (("back", changer),) * times, left_behind(store, name, changer, times)
        if changer == number:
            found.append((backs, left, many - times))
        else:
            found.append((backs, left, many))
            found.append((backs + (("commit", changer),), left[-1:], many))
    if changer != number:
        found.append(((("abort", changer),), current[:1], many))
    return found


def left_behind(store, name, changer, times):
    """The versions that stand from the base on when the changer has gone back so many times."""
    parts, current = store.parts(changer), store.current(name)
    open_still = parts[:len(parts) - times]
    makers = [(version, store.version(name, version)[1]) for version in current[1:]]
    return current[:1] + [version for version, maker in makers if store.owner(maker) in open_still]
