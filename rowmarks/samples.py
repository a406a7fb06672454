"""Short histories over the rows x and y: each table that is not right goes wrong behind one of them."""

SAMPLES = (
    # A harder lock goes back, and the weaker one of the part around must be told again.
    (("begin",), ("lock", 1, "x", "hold"), ("save", 1), ("lock", 1, "x", "keep"), ("back", 1)),
    # A lock that is harder than the change behind it was taken in a part that was released.
    (("begin",), ("save", 1), ("lock", 1, "x", "replace"), ("release", 1), ("change", 1, "x", "change", 1)),
    # Two rows have marks with sets; if the dead set is forgotten, the other row takes its number.
    (
        ("begin",), ("begin",), ("lock", 2, "x", "hold"), ("lock", 2, "x", "change"), ("commit", 2),
        ("lock", 1, "y", "change"), ("clean",), ("change", 1, "y", "change", 1),
    ),
    # A lock beside a change must be told when the change goes back and its version is removed,
    (
        ("begin",), ("begin",), ("save", 2), ("change", 2, "x", "change", 1), ("lock", 1, "x", "hold"), ("back", 2),
        ("clean",),
    ),
    # and when the change is committed and the version before it is removed,
    (("begin",), ("change", 1, "x", "change", 1), ("begin",), ("lock", 2, "x", "hold"), ("commit", 1), ("clean",)),
    # also if the lock was there before the change.
    (("begin",), ("begin",), ("lock", 2, "x", "hold"), ("change", 1, "x", "change", 1), ("commit", 1), ("clean",)),
)
