"""All that a Fates tells, as one plain value to compare."""

from rowmarks.errors import UnknownPart, UnknownTransaction


def transactions(fates):
    found = []
    while True:
        try:
            found.append((fates.state(len(found) + 1), fates.parts(len(found) + 1)))
        except UnknownTransaction:
            return found


def one_part(fates, part):
    return (
        fates.transaction(part),
        fates.around(part),
        fates.root(part),
        fates.owner(part),
        fates.fate(part),
        fates.joined_at(part),
        fates.ended_at(part),
    )


def all_parts(fates):
    found = []
    while True:
        try:
            found.append(one_part(fates, len(found) + 1))
        except UnknownPart:
            return found


def picture(fates):
    return (
        fates.operations,
        fates.moment(),
        fates.running(),
        transactions(fates),
        all_parts(fates),
    )
