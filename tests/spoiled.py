"""Markings that are changed a little, so that many of them are none, do not fit or do not tell."""

from naive_marked import NaiveMarked

MODES = ("hold", "keep", "change", "replace")


def any_member(walker, parts):
    word = walker.pick(("locks", "locks", "changes"))
    return walker.pick(list(range(1, parts + 1)) * 3 + [parts + 1]), word, walker.pick(MODES if word == "locks" else MODES[2:])


def any_mark(walker, parts, sets):
    return walker.pick((None, any_member(walker, parts), any_member(walker, parts), walker.pick(sets or [None]), 99))


def any_write(walker, marked):
    """A write by its form, most of them such that they can be done."""
    naive = marked.naive
    parts, sets = len(naive.parts), sorted(marked.sets)
    if walker.pick(range(3)) == 0:
        members = walker.several([any_member(walker, parts) for _ in range(4)], 4)
        return "set", walker.pick((1, 2, 3, 7, 50, 10 ** 6)), tuple(members)
    name = walker.pick([name for name in naive.names for _ in naive.current(name)])
    version = walker.pick(naive.current(name) * 12 + [naive.made[name] + 1, 0])
    if version in naive.current(name) and walker.pick(range(2)):
        # A part of what it has, so that something is lost.
        return "mark", name, version, walker.pick((None, *marked.members(marked.marks[name, version])))
    return "mark", name, version, any_mark(walker, parts, sets)


def spoiled(values, history, marking, walker):
    """A marking with a write left out, put in or exchanged, often behind an operation that writes."""
    at = walker.pick([place for place in range(len(history)) if marking[place]] * 3 + list(range(len(history))))
    marked = NaiveMarked(values)
    for operation, writes in zip(history[:at + 1], marking):
        marked.step(operation, writes)
    writes = list(marking[at])
    kind = walker.pick(("out", "in", "in", "exchange"))
    place = walker.pick(range(len(writes) + 1))
    if kind == "in" or not writes:
        writes.insert(place, any_write(walker, marked))
    elif kind == "out":
        del writes[min(place, len(writes) - 1)]
    else:
        writes[min(place, len(writes) - 1)] = any_write(walker, marked)
    return marking[:at] + (tuple(writes),) + marking[at + 1:]


def with_more(marking, at, *writes):
    """A marking with more writes behind an operation, counted from 1."""
    return marking[:at - 1] + (marking[at - 1] + writes,) + marking[at:]


def with_writes(marking, at, *writes):
    """A marking with other writes behind an operation, counted from 1."""
    return marking[:at - 1] + (writes,) + marking[at:]
