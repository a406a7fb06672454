"""Choices in a fixed order that looks like none."""


class Walker:
    def __init__(self, seed):
        self.now = seed

    def pick(self, some):
        self.now = (self.now * 6364136223846793005 + 1442695040888963407) % 2 ** 64
        return some[(self.now >> 33) % len(some)]

    def several(self, some, most):
        """Up to so many choices, perhaps the same one again."""
        return [self.pick(some) for _ in range(self.pick(range(most + 1)))]
