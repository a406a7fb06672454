"""Handles of single transactions of a store."""

from rowmarks.errors import MarkError


class Transaction:
    """One transaction of a store, which is asked and changed through it."""

    def __init__(self, store, number):
        # Asked only for its error: a handle is one of a transaction that there is.
        store.state(number)
        self._store = store
        self.number = number

    def lock(self, name, *, mode="hold"):
        """Locks a row."""
        self._store.lock(self.number, name, mode)

    def change(self, name, value, *, mode="change"):
        """Changes a row."""
        self._store.change(self.number, name, mode, value)

    def save(self):
        """Opens a part inside the innermost open one and returns its number."""
        return self._store.save(self.number)

    def release(self):
        """Joins the innermost open part to the one around it."""
        self._store.release(self.number)

    def back(self):
        """Rolls the innermost open part back."""
        self._store.back(self.number)

    def prepare(self):
        """Makes the transaction one that can only commit or abort."""
        self._store.prepare(self.number)

    def commit(self):
        """Commits every part that is not rolled back."""
        self._store.commit(self.number)

    def abort(self):
        """Rolls all parts back."""
        self._store.abort(self.number)

    def profile(self, name):
        """The strongest mode of each open part on a row."""
        return self._store.profile(self.number, name)

    def attempt(self, requests):
        """Does all of some locks and changes, or none of them."""
        self.save()
        try:
            for request in requests:
                self._ask(request)
        except MarkError:
            self.back()
            raise
        self.release()

    def _ask(self, request):
        word, name, mode, *values = request
        if word == "lock":
            self.lock(name, mode=mode)
        else:
            self.change(name, values[0], mode=mode)

    def __getitem__(self, name):
        return self._store.read(self.number, name)

    def __setitem__(self, name, value):
        self._store.change(self.number, name, "change", value)

    def __contains__(self, name):
        return name in self._store.names

    def __iter__(self):
        # Without this, Python would ask for the rows 0, 1, 2 and so on.
        raise TypeError("a transaction is not iterated over")
