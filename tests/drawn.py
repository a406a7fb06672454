"""Drawn operations of a store, most of them such that they can be done."""

from naive_store import NaiveStore
from walker import Walker

ENDS = ("release", "back", "prepare", "commit", "abort")


def next_operation(naive, walker, names=("x", "y")):
    """An operation by its form, chosen by what a NaiveStore says of the transactions."""
    numbers = naive.running() * 5 + [len(naive.states) or 1, 1]
    kind = walker.pick(range(60))
    if kind == 0:
        return ("crash",)
    if kind < 4:
        return ("clean",)
    if kind < 6:
        return "horizon", walker.pick(range(len(naive.moments) + 1))
    if kind < 9 or (kind < 20 and len(naive.running()) < 3):
        return ("begin",)
    if kind < 33:
        return walker.pick(("save", "save", "save") + ENDS[:2] * 2 + ENDS), walker.pick(numbers)
    name = walker.pick(names)
    if kind < 50:
        return "lock", walker.pick(numbers), name, walker.pick(("hold", "hold", "hold", "keep", "change", "replace"))
    return "change", walker.pick(numbers), name, walker.pick(("change", "change", "replace")), walker.pick(range(-9, 10))


def next_holding(naive, walker, names=("x", "y")):
    """An operation of a few long transactions that hold rows, with savepoints and cleanings."""
    if len(naive.running()) < 3:
        return ("begin",)
    number, kind = walker.pick(naive.running()), walker.pick(range(12))
    if kind < 1:
        return ("clean",)
    if kind < 3:
        return walker.pick(("save", "back", "save", "back", "release", "abort")), number
    return "lock", number, walker.pick(names), "hold"


def drawn_history(values, seed, many, start=(), choose=next_operation):
    """A history of so many operations, perhaps with some at its start."""
    naive, walker, found = NaiveStore(values), Walker(seed), []
    for operation in start:
        naive.perform(operation)
        found.append(operation)
    while len(found) < many:
        operation = choose(naive, walker, naive.names)
        if naive.full_refusal(operation) is None:
            naive.perform(operation)
            found.append(operation)
    return tuple(found)
