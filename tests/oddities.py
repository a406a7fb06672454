"""Values of all kinds that are never numbers of transactions or parts."""

import copy


class Stranger:
    """An object of a class that the package does not know."""


def nested(depth):
    value = []
    for _ in range(depth):
        value = [value]
    return value


NO_NUMBERS = (
    True,
    False,
    None,
    0,
    -1,
    -7,
    10 ** 59,
    -(10 ** 59),
    "",
    "1",
    "one",
    (),
    (1,),
    (1, 2),
    [],
    [1],
    [[1], {"a": [1]}],
    {},
    {1: 1},
    {"number": 1},
    nested(49),
)

NEAR_NAMES = (
    "", "abcdefg", "X", "aB", "x1", "1", "x y", "x ", " x", "x\n", "\n", "x_", "_", "-", "x-y", "x.y", "abcdeF", "abcdefgh",
    "\u00e9", "a\u00df", "\u03b1",
)
ODD = tuple(value for value in NO_NUMBERS if value != "one")
NOT_NAMES = NEAR_NAMES + ODD + (1, 5, ["x"], ("x",), {"x": 1})
NO_ROWS = NOT_NAMES + ("one", "z", "xx", "abcdef")
NO_MODES = ("Hold", "hold ", "holds", "locks", "changes", "x", "") + NO_NUMBERS + (1, 3, ["hold"], ("change",), {"keep": 2})
UNKNOWN = NO_NUMBERS + (8, 9, 100)
NO_VALUES = (
    10 ** 30, -(10 ** 30), 10 ** 59, -(10 ** 59), True, False, None, "", "1", (), (1,), [], [1], {}, {1: 1}, [[1], {"a": [1]}]
)


def twin(value):
    """An equal value that is another object where there can be one."""
    return copy.deepcopy(value)
