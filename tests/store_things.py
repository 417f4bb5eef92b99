"""What the tests of stores and desks share: a ground, rules, views, and a look at all that a store tells."""

import unittest

from rowveil.stores import Store
from tests.things import anything

YES = ("yes",)
NO = ("not", YES)
# t has a key and an open column, u has no key.
GROUND = (("t", 1, (("a", 4, False), ("b", 3, True))), ("u", 0, (("c", 2, False),)))
T, U = ("rows", "t"), ("rows", "u")
# Eight possible rows: of this one all worlds are gone through.
SMALL = (("t", 1, (("a", 2, False), ("b", 2, True))), ("u", 0, (("c", 2, False),)))
# A table that may be full.
WIDE = (("t", 2, (("a", 9, False), ("b", 9, False))),)


def rule(verb="read", table="t", condition=YES, users=(), kind="let"):
    return (verb, kind, table, users, condition)


def view(name="w", ask=T, mode="own", users=()):
    return (name, ask, mode, users)


def told_of(store):
    """All that a store tells without a refusal, but its notes."""
    return (
        store.all_rules(), store.all_views(), store.all_rows(), store.open_begins(), len(store), str(store),
        store.runs_open(), [store.asks_of(user) for user in range(9)],
    )


def filled(ground, **tables):
    """A store with these rows."""
    store = Store(ground)
    for name, rows in tables.items():
        for row in rows:
            store.fill(name, row)
    return store


def things_but(*but):
    """Things of all kinds, but these; a truth is another thing than a number."""
    known = [repr(thing) for thing in but]
    return [thing for thing in anything() if repr(thing) not in known]


class StoreTestCase(unittest.TestCase):
    def assert_refused(self, error, store, call):
        """The call is refused with that very class, and all is as it was."""
        ahead, notes = told_of(store), store.notes()
        with self.assertRaises(error) as caught:
            call()
        self.assertIs(type(caught.exception), error)
        self.assertEqual(told_of(store), ahead)
        self.assertEqual(store.notes(), notes)
        return caught.exception
