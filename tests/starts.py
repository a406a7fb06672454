"""Fates to begin a test with."""

from rowmarks.fates import Fates


def fates_of(*depths):
    """Fates with a transaction for each number, which tells its open parts."""
    fates = Fates()
    for depth in depths:
        number = fates.begin()
        for _ in range(depth - 1):
            fates.save(number)
    return fates
