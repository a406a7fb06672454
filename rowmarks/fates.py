"""Transactions, their parts, and how the parts end."""

from rowmarks.errors import Ended, FirstPart, Prepared, StillOpen, TooMany, UnknownPart, UnknownTransaction
from rowmarks.kinds import is_within

MOST_RUNNING = 8
MOST_OPEN = 5


class Part:
    """What is known of one part of a transaction."""

    def __init__(self, holder, outer):
        self.holder = holder
        self.outer = outer
        self.released = None
        self.ended = None
        self.outcome = "open"


class Fates:
    """Transactions that begin and end, with savepoints within them."""

    def __init__(self):
        self._done = 0
        self._commits = 0
        self._at_work = []
        self._states = []
        self._stacks = []
        self._all_parts = []

    def begin(self):
        """Begins a transaction and returns its number."""
        if len(self._at_work) >= MOST_RUNNING:
            raise TooMany(MOST_RUNNING)
        self._count_operation()
        number = len(self._states) + 1
        self._states.append("running")
        self._stacks.append([])
        self._at_work.append(number)
        self._open_part(number, None)
        return number

    def save(self, number):
        """Opens a part inside the innermost open one and returns its number."""
        self._check_free(number)
        stack = self._stacks[number - 1]
        if len(stack) >= MOST_OPEN:
            raise TooMany(MOST_OPEN)
        self._count_operation()
        return self._open_part(number, stack[-1])

    def release(self, number):
        """Joins the innermost open part to the one around it."""
        part = self._all_parts[self._take_innermost(number) - 1]
        part.released = self._done

    def back(self, number):
        """Rolls the innermost open part back."""
        part = self._take_innermost(number)
        self._end_part(part, "rolled back")

    def prepare(self, number):
        """Makes a transaction one that can only commit or abort."""
        self._check_free(number)
        if len(self._stacks[number - 1]) > 1:
            raise StillOpen(number)
        self._count_operation()
        self._states[number - 1] = "prepared"

    def commit(self, number):
        """Commits every part that is not rolled back."""
        self._check_running(number)
        self._count_operation()
        self._commits += 1
        self._end_transaction(number, "committed", "committed")

    def abort(self, number):
        """Rolls all parts of a transaction back."""
        self._check_running(number)
        self._count_operation()
        self._end_transaction(number, "aborted", "rolled back")

    def crash(self):
        """Rolls back all running transactions that are not prepared."""
        self._count_operation()
        hit = [number for number in self._at_work if self._states[number - 1] == "running"]
        for number in hit:
            self._end_transaction(number, "aborted", "rolled back")

    @property
    def operations(self):
        """How many operations were done."""
        return self._done

    def moment(self):
        """How many commits there were."""
        return self._commits

    def running(self):
        """The running transactions, ascending, prepared ones too."""
        return list(self._at_work)

    def state(self, number):
        """What became of a transaction: running, prepared, committed or aborted."""
        self._check_known(number)
        return self._states[number - 1]

    def parts(self, number):
        """The open parts of a transaction, ascending, the first part first."""
        self._check_known(number)
        return list(self._stacks[number - 1])

    def is_transaction(self, number):
        """Whether a value is the number of a transaction."""
        return is_within(number, 1, len(self._states))

    def is_part(self, part):
        """Whether a value is the number of a part."""
        return is_within(part, 1, len(self._all_parts))

    def root(self, part):
        """The end of the joins of a part."""
        self._check_part(part)
        while self._all_parts[part - 1].released is not None:
            part = self._all_parts[part - 1].outer
        return part

    def owner(self, part):
        """The root of a part while this is open, else None."""
        root = self.root(part)
        return root if self._all_parts[root - 1].outcome == "open" else None

    def fate(self, part):
        """What became of a part: open, rolled back or committed."""
        return self._all_parts[self.root(part) - 1].outcome

    def transaction(self, part):
        """The transaction of a part."""
        self._check_part(part)
        return self._all_parts[part - 1].holder

    def around(self, part):
        """The part inside which a part was opened, None for a first part."""
        self._check_part(part)
        return self._all_parts[part - 1].outer

    def joined_at(self, part):
        """The operation that released a part, None if none did."""
        self._check_part(part)
        return self._all_parts[part - 1].released

    def ended_at(self, part):
        """The operation that ended the root of a part, None if it is open."""
        return self._all_parts[self.root(part) - 1].ended

    def _count_operation(self):
        self._done += 1

    def _check_known(self, number):
        if not self.is_transaction(number):
            raise UnknownTransaction(number)

    def _check_running(self, number):
        self._check_known(number)
        if self._states[number - 1] in ("committed", "aborted"):
            raise Ended(number)

    def _check_free(self, number):
        self._check_running(number)
        if self._states[number - 1] == "prepared":
            raise Prepared(number)

    def _check_part(self, part):
        if not self.is_part(part):
            raise UnknownPart(part)

    def _open_part(self, number, outer):
        self._all_parts.append(Part(number, outer))
        part = len(self._all_parts)
        self._stacks[number - 1].append(part)
        return part

    def _take_innermost(self, number):
        """Counts an operation that closes the innermost part; returns this."""
        self._check_free(number)
        if len(self._stacks[number - 1]) == 1:
            raise FirstPart(number)
        self._count_operation()
        return self._stacks[number - 1].pop()

    def _end_part(self, part, outcome):
        ended = self._all_parts[part - 1]
        ended.outcome = outcome
        ended.ended = self._done

    def _end_transaction(self, number, state, outcome):
        # Parts that went back earlier stand in the stack no more, and the
        # joined ones share what happens to their roots.
        for part in self._stacks[number - 1]:
            self._end_part(part, outcome)
        self._stacks[number - 1] = []
        self._states[number - 1] = state
        self._at_work.remove(number)
