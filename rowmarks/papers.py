"""Papers: what shows, for each lock and change, where it is told or why it is not."""

from rowmarks.histories import listed, run
from rowmarks.members import CHANGED, canonical
from rowmarks.modes import rank_of


def papers(values, history):
    """A paper for each entry of the lock list behind a history."""
    store, some = run(values, history), listed(values, history)
    return [paper(entry, store, some) for entry in range(len(some.entries()))]


def readings(values, history, name):
    """What the marks of a row tell behind a history, each with an entry that it stands for."""
    store, some = run(values, history), listed(values, history)
    return [
        (version, member, entry_of(member, name, some))
        for version in store.current(name)
        for member in told(store, name, version)
    ]


def told(store, name, version):
    """The canonical members of the mark of a version."""
    return canonical(store.members(name, version), store)


def entry_of(member, name, some):
    """The first entry of a row, no idle one, that a canonical member stands for."""
    owner, word, mode = member
    for at, (part, row, entry_word, entry_mode) in enumerate(some.entries()):
        same = (row, entry_word, entry_mode) == (name, word, mode)
        # A change whose part has no owner has no member that shows it.
        if same and some.owner(part) == owner and not some.is_idle(at):
            return at
    return None


def paper(entry, store, some):
    """The paper of an entry."""
    part, name, word, mode = some.entries()[entry]
    owner = store.owner(part)
    if owner is None:
        return ("ended", store.ended_at(part))
    if some.is_idle(entry):
        return ("idle", some.covers(entry)[0])
    member = (owner, word, mode)
    places = [version for version in places_of(entry, store, some) if member in told(store, name, version)]
    if len(places) > 0:
        return shown(store, name, places[0], member)
    return covered(store, name, member)


def places_of(entry, store, some):
    """The versions whose marks may show an entry."""
    name = some.entries()[entry][1]
    current = store.current(name)
    if some.entries()[entry][2] != CHANGED:
        return current
    made = version_of(entry, some)
    return [version for version in current if version < made][-1:]


def version_of(entry, some):
    """The number of the version that a change made."""
    name = some.entries()[entry][1]
    changes = [one for one in some.entries()[:entry + 1] if one[1] == name and one[2] == CHANGED]
    # Each change of a row made the next version of it.
    return len(changes)


def shown(store, name, version, wanted):
    """The paper of an entry that is among the canonical members of a mark."""
    for member in store.members(name, version):
        if (store.owner(member[0]), member[1], member[2]) == wanted:
            return ("shown", version, member, joins_of(member[0], store))
    return None


def joins_of(part, fates):
    """The operations that released the parts on the way from a part to its root."""
    found = []
    while fates.joined_at(part) is not None:
        found.append(fates.joined_at(part))
        part = fates.around(part)
    return tuple(found)


def covered(store, name, lock):
    """The paper of a lock that something not weaker of the parts around makes needless."""
    owner, _, mode = lock
    reach = [part for part in store.parts(store.transaction(owner)) if part <= owner]
    for version in store.current(name):
        for member in told(store, name, version):
            if member[0] in reach and rank_of(member[2]) >= rank_of(mode):
                return ("covered", version, member)
    return None
