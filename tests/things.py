"""Things that are no ground, no world, no condition and no ask, and small grounds that several tests use."""


def nested(wrap, depth):
    """Forty and fewer things within one another."""
    thing = 0
    for step in range(depth):
        thing = wrap(thing)
    return thing


def anything():
    """Things of all kinds that the document's point 2 speaks of, none of which means anything."""
    return [
        None, True, False, 0, 1, -1, 7, 10 ** 29, -(10 ** 29),
        "", "a", "yes", "rows", "rows t", "z" * 4000, " ~\n",
        (), [], ((),), ([],), [()], [[]], (None,), (True,), (0,), ("",), ("a",), (("a",),),
        ("nothing", "t"), (None, "t"), (0, 0), (["rows"], "t"), (("rows", "t"),), ([], []), (1, 2, 3),
        ["rows", "t"], ["yes"], ["is", "a", 1], [("t", 0, (("a", 1, False),))],
        nested(lambda thing: (thing,), 40), nested(lambda thing: [thing], 40),
        nested(lambda thing: ("seal", thing), 40), nested(lambda thing: ("not", thing), 40),
        nested(lambda thing: ("and", thing, ("yes",)), 39), nested(lambda thing: ("pairs", thing, thing), 6),
    ]


# Two tables with a key each, and one without: t has open columns, u has a column of each size's end.
GROUND = (
    ("t", 1, (("a", 9, False), ("b", 4, True), ("c", 3, True))),
    ("u", 2, (("a", 3, False), ("d", 3, False))),
    ("v", 0, (("e", 3, True), ("f", 2, False))),
)

WORLD = (
    ((0, -1, 2), (1, 0, 0), (2, 1, -1), (5, 1, 1), (8, 3, 2)),
    ((0, 0), (0, 2), (1, 0), (2, 1)),
    ((-1, 0), (-1, 1), (0, 1), (2, 0)),
)
