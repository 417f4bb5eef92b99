"""Point 14: what the asks of a user hear, over what it sees."""

import unittest

from rowveil.asked import answer, heard
from rowveil.errors import NoAsk, NoRight
from rowveil.settings import is_setting
from tests.things import GROUND, WORLD, anything

YES = ("yes",)
NO = ("not", YES)
T, U, V = ("rows", "t"), ("rows", "u"), ("rows", "v")

# The user 0 sees of t the rows 1, 2 and 5, of u those with a 0 and 2, of v nothing; the user 8 sees all.
RULES = [
    ("read", "let", "t", (0,), ("below", "c", 2)), ("read", "let", "t", (0,), ("is", "a", 2)),
    ("read", "let", "u", (0,), ("not", ("is", "a", 1))),
    ("read", "let", "t", (8,), YES), ("read", "let", "u", (8,), YES), ("read", "let", "v", (8,), YES),
]
VIEWS = [
    ("own", U, "own", ()), ("asker", U, "asker", ()),
    ("some", ("where", T, ("has", "u", "a", "a", YES)), "own", ()), ("few", ("view", "own"), "own", (8,)),
]
SETTING = (GROUND, RULES, VIEWS)


def named(column, *values):
    return [(column, value) for value in values]


class HeardTest(unittest.TestCase):
    def assert_heard(self, ask, expected, user=0):
        with self.subTest(ask=ask, user=user):
            told = heard(SETTING, WORLD, user, ask)
            self.assertEqual(told, expected)
            self.assertIsInstance(told, list)

    def test_the_setting(self):
        self.assertIs(is_setting(SETTING), True)
        self.assertEqual(answer(SETTING, WORLD, 0, T)[1], [(1, 0, 0), (2, 1, -1), (5, 1, 1)])
        self.assertEqual(answer(SETTING, WORLD, 0, U)[1], [(0, 0), (0, 2), (2, 1)])

    def test_nothing_loud(self):
        for ask in [T, ("where", T, YES), ("view", "some"), ("count", ("view", "own"), "n")]:
            self.assert_heard(ask, [])

    def test_rows_that_are_seen_alone(self):
        loud = ("where", T, ("loud", "b"))
        self.assert_heard(loud, named("b", 0, 1))
        self.assert_heard(loud, named("b", -1, 0, 1, 3), 8)
        self.assert_heard(loud, [], 1)
        self.assert_heard(("where", V, ("loud", "f")), [])

    def test_and(self):
        self.assert_heard(("where", T, ("and", ("is", "b", 1), ("loud", "a"))), named("a", 2, 5))
        self.assert_heard(("where", T, ("and", ("loud", "a"), ("is", "b", 1))), named("a", 1, 2, 5))
        self.assert_heard(("where", T, ("and", ("is", "c", 1), ("loud", "a"))), named("a", 5))
        self.assert_heard(("where", T, ("and", ("not", ("is", "c", 1)), ("loud", "a"))), named("a", 1))

    def test_or(self):
        self.assert_heard(("where", T, ("or", ("is", "c", 1), ("loud", "a"))), named("a", 1, 2))
        self.assert_heard(("where", T, ("or", ("loud", "a"), ("loud", "b"))), named("a", 1, 2, 5))

    def test_not(self):
        self.assert_heard(("where", T, ("not", ("loud", "c"))), named("c", -1, 0, 1))
        self.assert_heard(("where", T, ("and", ("not", ("loud", "c")), ("loud", "a"))), named("c", -1, 0, 1))

    def test_mine(self):
        self.assert_heard(("where", U, ("and", ("mine", "a"), ("loud", "d"))), named("d", 0, 2))
        self.assert_heard(("where", T, ("and", ("mine", "a"), ("loud", "b"))), named("b", 3), 8)

    def test_has_looks_at_what_is_seen(self):
        has = ("has", "u", "a", "a", ("not", ("loud", "d")))
        self.assert_heard(("where", T, has), named("d", 1))
        self.assert_heard(("where", T, has), named("d", 0, 1, 2), 8)
        self.assert_heard(("where", T, ("has", "v", "b", "e", ("loud", "f"))), [])
        self.assert_heard(("where", T, ("has", "v", "b", "e", ("loud", "f"))), named("f", 1), 8)

    def test_has_goes_up_to_the_first_that_is_seen_and_tells_true(self):
        # Of t the rows with b 1 are 2 and 5; both are seen by the user 0.
        one = ("where", T, ("is", "a", 5))
        self.assert_heard(("where", one, ("has", "t", "b", "b", ("loud", "a"))), named("a", 2))
        self.assert_heard(("where", one, ("has", "t", "b", "b", ("and", ("loud", "a"), ("is", "c", 1)))), named("a", 2, 5))
        # Of t the rows with c 2 are 0 and 8, neither of them seen: the first one is not looked at.
        two = ("where", U, ("is", "d", 2))
        self.assert_heard(("where", two, ("has", "t", "d", "c", ("loud", "a"))), [])
        self.assert_heard(("where", two, ("has", "t", "d", "c", ("loud", "a"))), named("a", 0), 8)

    def test_the_first_row_is_not_seen(self):
        # The user 3 sees of v the second row with an f of 1 only: has looks at that one alone.
        rules = [("read", "let", "v", (), ("is", "e", 0)), ("read", "let", "u", (), YES)]
        ask = ("where", U, ("has", "v", "d", "f", ("loud", "e")))
        self.assertEqual(heard((GROUND, rules, []), WORLD, 3, ask), named("e", 0))
        everything = [("read", "let", "v", (), YES), rules[1]]
        self.assertEqual(heard((GROUND, everything, []), WORLD, 3, ask), named("e", -1))

    def test_has_with_an_empty_value(self):
        self.assert_heard(("where", T, ("has", "t", "c", "c", ("loud", "a"))), named("a", 1, 5))

    def test_columns_as_they_are_named_there(self):
        self.assert_heard(("where", ("named", U, ("x", "y")), ("loud", "x")), named("x", 0, 2))
        self.assert_heard(("where", ("named", U, ("d", "a")), ("loud", "a")), named("a", 0, 1, 2))
        self.assert_heard(("named", ("where", U, ("loud", "a")), ("d", "a")), named("a", 0, 2))
        self.assert_heard(("where", ("count", U, "n"), ("loud", "n")), named("n", 3))

    def test_above_views(self):
        self.assert_heard(("where", ("view", "own"), ("loud", "a")), named("a", 0, 1, 2))
        self.assert_heard(("where", ("view", "asker"), ("loud", "a")), named("a", 0, 2))
        self.assert_heard(("where", ("view", "some"), ("loud", "b")), named("b", -1, 0, 1))
        # What is looked at above a view is what it shows; has above it is of what is seen.
        self.assert_heard(("where", ("view", "own"), ("has", "t", "a", "a", ("loud", "c"))), named("c", -1, 0))

    def test_all_asks_within_an_ask(self):
        loud, quiet = ("where", U, ("loud", "a")), ("where", U, NO)
        for ask in [
            ("less", quiet, loud), ("both", quiet, loud), ("both", loud, quiet), ("keep", loud, ("d",)), ("seal", loud),
            ("pairs", ("count", quiet, "n"), loud), ("pairs", ("where", V, YES), loud), ("where", loud, NO),
            ("count", ("less", loud, loud), "n"), ("less", ("view", "own"), loud),
        ]:
            self.assert_heard(ask, named("a", 0, 2))

    def test_rising_and_once(self):
        both = ("both", ("where", U, ("loud", "d")), ("where", ("seal", U), ("and", ("loud", "d"), ("loud", "a"))))
        self.assert_heard(both, named("a", 0, 2) + named("d", 0, 1, 2))

    def test_refusals(self):
        for thing in anything():
            with self.subTest(thing), self.assertRaises(NoAsk):
                heard(SETTING, WORLD, 0, thing)
        with self.assertRaises(NoRight) as caught:
            heard(SETTING, WORLD, 0, ("where", ("view", "few"), ("loud", "a")))
        self.assertEqual(caught.exception.name, "few")
        with self.assertRaises(NoAsk):
            heard(SETTING, WORLD, 0, ("where", ("view", "few"), ("loud", "b")))


if __name__ == "__main__":
    unittest.main()
