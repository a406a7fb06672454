"""Histories: operations one after the other, and what stands behind them."""

from rowmarks.errors import Impossible, MarkError
from rowmarks.kinds import is_name, is_value, is_within
from rowmarks.locklists import LockList
from rowmarks.modes import is_change, is_mode
from rowmarks.stores import Store

MOST_OPERATIONS = 60
LAST_MOMENT = 60
LAST_TRANSACTION = 1000000
ALONE = ("begin", "crash", "clean")
WITH_NUMBER = ("save", "release", "back", "commit", "abort", "prepare")


def is_operation(value):
    """Whether a value is an operation by its form."""
    if not isinstance(value, tuple) or len(value) == 0:
        return False
    word, rest = value[0], value[1:]
    if word in ALONE:
        return len(rest) == 0
    if word == "horizon":
        return len(rest) == 1 and is_within(rest[0], 0, LAST_MOMENT)
    if len(rest) == 0 or not is_within(rest[0], 1, LAST_TRANSACTION):
        return False
    if word in WITH_NUMBER:
        return len(rest) == 1
    if word == "lock":
        return len(rest) == 3 and is_name(rest[1]) and is_mode(rest[2])
    return word == "change" and len(rest) == 4 and is_name(rest[1]) and is_change(rest[2]) and is_value(rest[3])


def first_refused(values, history):
    """The number of the first operation that is none or raises an error, None for a history."""
    if not isinstance(history, tuple):
        return 0
    store = Store(values)
    for at, operation in enumerate(history, 1):
        if at > MOST_OPERATIONS or not is_operation(operation) or not can_do(store, operation):
            return at
    return None


def check_history(values, history):
    """Raises an error for a value that is no history."""
    refused = first_refused(values, history)
    if refused is not None:
        raise Impossible(refused)


def run(values, history):
    """The store behind a history."""
    check_history(values, history)
    store = Store(values)
    for operation in history:
        do_stored(store, operation)
    return store


def listed(values, history):
    """The lock list behind a history."""
    check_history(values, history)
    some = LockList(list(values))
    for operation in history:
        do_listed(some, operation)
    return some


def can_do(store, operation):
    """Does an operation, and tells whether it was done."""
    try:
        do_stored(store, operation)
    except MarkError:
        return False
    return True


def do_stored(store, operation):
    """Does an operation on a store."""
    match operation:
        case ("lock", number, name, mode):
            store.lock(number, name, mode)
        case ("change", number, name, mode, value):
            store.change(number, name, mode, value)
        case ("clean",):
            store.clean()
        case ("horizon", moment):
            store.move_horizon(moment)
        case _:
            do_fates(store, operation)


def do_listed(some, operation):
    """Does an operation on a lock list."""
    match operation:
        case ("lock", number, name, mode):
            some.lock(number, name, mode)
        case ("change", number, name, mode, _):
            some.change(number, name, mode)
        case ("clean",):
            some.skip()
        case ("horizon", _):
            some.skip()
        case _:
            do_fates(some, operation)


def do_fates(fates, operation):
    """Does an operation that begins or ends transactions or their parts."""
    match operation:
        case ("begin",):
            fates.begin()
        case ("crash",):
            fates.crash()
        case ("save", number):
            fates.save(number)
        case ("release", number):
            fates.release(number)
        case ("back", number):
            fates.back(number)
        case ("prepare", number):
            fates.prepare(number)
        case ("commit", number):
            fates.commit(number)
        case ("abort", number):
            fates.abort(number)
