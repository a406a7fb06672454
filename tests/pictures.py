"""All that a Fates tells, as one plain value to compare."""

from rowmarks.errors import UnknownPart, UnknownTransaction


def transactions(fates):
    found = []
    while True:
        try:
            found.append((fates.state(len(found) + 1), fates.parts(len(found) + 1)))
        except UnknownTransaction:
            return found


def one_part(fates, part):
    return (
        fates.transaction(part),
        fates.around(part),
        fates.root(part),
        fates.owner(part),
        fates.fate(part),
        fates.joined_at(part),
        fates.ended_at(part),
    )


def all_parts(fates):
    found = []
    while True:
        try:
            found.append(one_part(fates, len(found) + 1))
        except UnknownPart:
            return found


def picture(fates):
    return (
        fates.operations,
        fates.moment(),
        fates.running(),
        transactions(fates),
        all_parts(fates),
    )


def list_picture(some):
    """All that a LockList tells."""
    numbers = range(1, len(transactions(some)) + 1)
    return (
        picture(some),
        some.entries(),
        [(some.is_idle(at), some.covers(at)) for at in range(len(some.entries()))],
        [[some.profile(number, name) for number in numbers] for name in some.names],
        [
            [some.blockers(name, mode, asker=asker) for asker in [None, *numbers]]
            for name in some.names
            for mode in ("hold", "keep", "change", "replace")
        ],
    )


def book_picture(book):
    """All that a SetBook tells of itself."""
    return len(book), book.taken(), [book[number] for number in book.taken()]


def row_picture(row, fates):
    """All that a Row tells, by some fates."""
    return (
        row.kept(),
        [row[number] for number in row.kept()],
        [row.mark(number) for number in row.kept()],
        row.standing(fates),
        row.base(fates),
        row.newest(fates),
        row.changer(fates),
    )


def row_pictures(store):
    """All that a Store tells of its rows."""
    return {
        name: (
            {version: (*store.version(name, version), store.mark(name, version)) for version in store.versions(name)},
            store.base(name),
            store.newest(name),
            store.changer(name),
            {version: store.need(name, version) for version in current(store, name)},
        )
        for name in store.names
    }


def current(store, name):
    """The standing versions of a row from the base on, by what the interface tells."""
    base = store.base(name)
    makers = {version: store.version(name, version)[1] for version in store.versions(name) if version >= base}
    return [version for version, maker in makers.items() if maker is None or store.fate(maker) != "rolled back"]


def store_picture(store):
    """All that a Store tells, without what is answered to requests."""
    return (
        picture(store),
        row_pictures(store),
        store.sets(),
        store.writes(),
        store.written(),
        store.horizon,
        {moment: store.at(moment) for moment in range(store.horizon, store.moment() + 1)},
    )


def answers(some):
    """What a LockList or a Store says of profiles and blockers."""
    numbers = range(1, len(transactions(some)) + 1)
    return [
        (
            [some.profile(number, name) for number in numbers],
            [[some.blockers(name, mode, asker=asker) for asker in [None, *numbers]] for mode in ("hold", "keep", "change", "replace")],
        )
        for name in some.names
    ]
