"""Values of all kinds that are never numbers of transactions or parts."""

import copy


class Stranger:
    """An object of a class that the package does not know."""


def nested(depth):
    value = []
    for _ in range(depth):
        value = [value]
    return value


NO_NUMBERS = (
    True,
    False,
    None,
    0,
    -1,
    -7,
    10 ** 59,
    -(10 ** 59),
    "",
    "1",
    "one",
    (),
    (1,),
    (1, 2),
    [],
    [1],
    [[1], {"a": [1]}],
    {},
    {1: 1},
    {"number": 1},
    nested(49),
)


def twin(value):
    """An equal value that is another object where there can be one."""
    return copy.deepcopy(value)
