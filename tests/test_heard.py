"""Point 14, of plain asks: what loud conditions hear, as far as they are looked at."""

import unittest

from rowveil.asks import plain_heard
from tests.things import GROUND, WORLD

YES = ("yes",)
NO = ("not", YES)
T = ("rows", "t")
U = ("rows", "u")
V = ("rows", "v")


def heard(ask, world=WORLD):
    return plain_heard(GROUND, world, ask)


def heard_where(ask, condition, world=WORLD):
    return heard(("where", ask, condition), world)


def named(column, *values):
    return [(column, value) for value in values]


class JoinedTest(unittest.TestCase):
    def test_nothing_loud(self):
        for ask in [T, ("where", T, YES), ("count", ("pairs", U, V), "n"), ("where", T, ("has", "u", "a", "a", YES))]:
            self.assertEqual(heard(ask), [])

    def test_each_row_is_heard_of_once_rising(self):
        self.assertEqual(heard_where(T, ("loud", "b")), named("b", -1, 0, 1, 3))
        self.assertEqual(heard_where(T, ("loud", "a")), named("a", 0, 1, 2, 5, 8))

    def test_no_rows(self):
        self.assertEqual(heard_where(T, ("loud", "b"), ((), WORLD[1], WORLD[2])), [])

    def test_several_columns(self):
        self.assertEqual(
            heard_where(U, ("and", ("loud", "d"), ("loud", "a"))),
            named("a", 0, 1, 2) + named("d", 0, 1, 2),
        )

    def test_and_looks_right_where_the_left_tells_true(self):
        self.assertEqual(heard_where(T, ("and", ("is", "b", 1), ("loud", "a"))), named("a", 2, 5))
        self.assertEqual(heard_where(T, ("and", ("loud", "a"), ("is", "b", 1))), named("a", 0, 1, 2, 5, 8))
        self.assertEqual(heard_where(T, ("and", NO, ("loud", "a"))), [])
        # Of the row whose b is empty neither tells True.
        self.assertEqual(heard_where(T, ("and", ("not", ("is", "b", 1)), ("loud", "a"))), named("a", 1, 8))

    def test_or_looks_right_where_the_left_does_not(self):
        self.assertEqual(heard_where(T, ("or", ("is", "b", 1), ("loud", "a"))), named("a", 0, 1, 8))
        self.assertEqual(heard_where(T, ("or", ("not", ("is", "b", 1)), ("loud", "a"))), named("a", 0, 2, 5))
        self.assertEqual(heard_where(T, ("or", YES, ("loud", "a"))), [])
        self.assertEqual(heard_where(T, ("or", ("loud", "b"), ("loud", "a"))), named("b", -1, 0, 1, 3))

    def test_not(self):
        self.assertEqual(heard_where(U, ("not", ("loud", "a"))), named("a", 0, 1, 2))
        self.assertEqual(heard_where(U, ("and", ("not", ("loud", "a")), ("loud", "d"))), named("a", 0, 1, 2))
        self.assertEqual(
            heard_where(U, ("or", ("not", ("loud", "a")), ("loud", "d"))),
            named("a", 0, 1, 2) + named("d", 0, 1, 2),
        )


class HasTest(unittest.TestCase):
    def test_rows_with_the_value_here(self):
        one = ("where", T, ("is", "a", 5))
        self.assertEqual(heard_where(one, ("has", "u", "b", "a", ("loud", "d"))), named("d", 0))
        self.assertEqual(heard_where(one, ("has", "t", "b", "b", ("not", ("loud", "a")))), named("a", 2, 5))

    def test_up_to_the_first_that_tells_true(self):
        one = ("where", U, ("is", "a", 1))
        self.assertEqual(heard_where(one, ("has", "t", "a", "b", ("loud", "a"))), named("a", 2))
        loud_then = ("and", ("loud", "a"), ("is", "c", 1))
        self.assertEqual(heard_where(one, ("has", "t", "a", "b", loud_then)), named("a", 2, 5))
        loud_never = ("and", ("loud", "a"), NO)
        self.assertEqual(heard_where(one, ("has", "t", "a", "b", loud_never)), named("a", 2, 5))

    def test_the_order_of_the_rows(self):
        ground = (("s", 1, (("z", 2, False),)), ("t", 0, (("a", 1, False), ("b", 5, False))))
        world = (((0,),), ((0, 1), (0, 2), (0, 3), (0, 4)))
        condition = ("has", "t", "z", "a", ("and", ("loud", "b"), ("not", ("below", "b", 3))))
        self.assertEqual(plain_heard(ground, world, ("where", ("rows", "s"), condition)), named("b", 1, 2, 3))

    def test_an_empty_value_looks_at_none(self):
        empty = ("where", T, ("empty", "b"))
        self.assertEqual(heard_where(empty, ("has", "v", "b", "e", ("loud", "f"))), [])
        self.assertEqual(heard_where(empty, ("has", "t", "b", "b", ("loud", "a"))), [])

    def test_no_row_with_that_value(self):
        one = ("where", T, ("is", "a", 8))
        self.assertEqual(heard_where(one, ("has", "u", "b", "a", ("loud", "d"))), [])

    def test_each_value_here_is_looked_up(self):
        self.assertEqual(heard_where(T, ("has", "u", "b", "a", ("not", ("loud", "d")))), named("d", 0, 2))
        self.assertEqual(heard_where(U, ("has", "v", "d", "e", ("not", ("loud", "f")))), named("f", 0, 1))

    def test_has_behind_and(self):
        has = ("has", "u", "b", "a", ("not", ("loud", "d")))
        self.assertEqual(heard_where(T, ("and", ("is", "a", 2), has)), named("d", 0))
        self.assertEqual(heard_where(T, ("or", ("below", "a", 9), has)), [])

    def test_has_within_has(self):
        inner = ("has", "v", "d", "e", ("loud", "f"))
        one = ("where", T, ("is", "a", 1))
        # Of the rows of u with a 0 the first one has a row in v, so the second one is not looked at.
        self.assertEqual(heard_where(one, ("has", "u", "b", "a", inner)), named("f", 1))
        self.assertEqual(heard_where(one, ("has", "u", "b", "a", ("not", inner))), named("f", 0, 1))

    def test_an_empty_value_there_is_heard_of(self):
        one = ("where", T, ("is", "a", 2))
        self.assertEqual(heard_where(one, ("has", "t", "a", "a", ("loud", "c"))), named("c", -1))


class AsksTest(unittest.TestCase):
    LOUD = ("where", U, ("loud", "a"))
    ALL = named("a", 0, 1, 2)

    def test_all_asks_within_an_ask(self):
        nothing = ("where", U, NO)
        for ask in [
            ("where", self.LOUD, NO), ("keep", self.LOUD, ("d",)), ("named", self.LOUD, ("x", "y")),
            ("pairs", self.LOUD, V), ("pairs", V, self.LOUD), ("pairs", ("where", V, NO), self.LOUD),
            ("both", self.LOUD, U), ("both", U, self.LOUD), ("less", self.LOUD, U), ("less", U, self.LOUD),
            ("less", nothing, self.LOUD), ("count", self.LOUD, "n"), ("seal", self.LOUD),
        ]:
            with self.subTest(ask):
                self.assertEqual(heard(ask), self.ALL)

    def test_both_sides(self):
        right = ("where", U, ("loud", "d"))
        for word in ["both", "less"]:
            self.assertEqual(heard((word, self.LOUD, right)), self.ALL + named("d", 0, 1, 2))

    def test_where_below_bars_rows(self):
        self.assertEqual(heard_where(("where", T, ("is", "b", 1)), ("loud", "c")), named("c", -1, 1))
        self.assertEqual(heard(("where", ("where", T, ("loud", "c")), ("is", "b", 1))), named("c", -1, 0, 1, 2))

    def test_columns_as_they_are_named_there(self):
        self.assertEqual(heard(("where", ("named", U, ("x", "a")), ("loud", "x"))), named("x", 0, 1, 2))
        self.assertEqual(heard(("named", ("where", U, ("loud", "a")), ("x", "y"))), named("a", 0, 1, 2))
        crossed = ("where", ("named", ("where", U, ("loud", "a")), ("d", "a")), ("loud", "d"))
        self.assertEqual(heard(crossed), named("a", 0, 1, 2) + named("d", 0, 1, 2))
        swapped = ("where", ("named", ("where", U, ("is", "d", 2)), ("d", "a")), ("loud", "a"))
        self.assertEqual(heard(swapped), named("a", 2))

    def test_columns_within_has_are_named_as_there(self):
        ask = ("where", ("named", U, ("x", "y")), ("has", "u", "x", "a", ("loud", "a")))
        self.assertEqual(heard(ask), named("a", 0, 1, 2))

    def test_counts_are_heard(self):
        self.assertEqual(heard(("where", ("count", T, "n"), ("loud", "n"))), named("n", 5))
        self.assertEqual(heard(("where", ("count", ("where", T, NO), "n"), ("loud", "n"))), named("n", 0))

    def test_what_two_wheres_hear_of_one_column_comes_together(self):
        ask = ("both", ("where", U, ("and", ("is", "a", 2), ("loud", "a"))), ("where", U, ("and", ("is", "a", 0), ("loud", "a"))))
        self.assertEqual(heard(ask), named("a", 0, 2))


if __name__ == "__main__":
    unittest.main()
