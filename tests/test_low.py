"""Point 16: conditions of plain asks put low."""

import unittest

from rowveil.asks import plain_answer, plain_head, plain_heard
from rowveil.errors import NoAsk
from rowveil.rewriting import put_low
from tests.lowness import faults, seals_in, words_in
from tests.things import GROUND, WORLD, anything

YES = ("yes",)
NO = ("not", YES)
T, U, V = ("rows", "t"), ("rows", "u"), ("rows", "v")
W = ("named", U, ("w", "x"))
WORLDS = [
    WORLD, ((), (), ()), (WORLD[0], (), WORLD[2]), ((), WORLD[1], ()), (WORLD[0][1:4], WORLD[1][:2], WORLD[2][2:]),
]


def where(ask, *conditions):
    """The ask under wheres, the first condition lowest."""
    for condition in conditions:
        ask = ("where", ask, condition)
    return ask


A1, A2 = ("is", "a", 1), ("below", "a", 2)
UV, WV = ("pairs", U, V), ("pairs", W, V)
SAME = ("same", "a", "e")


class Lowering(unittest.TestCase):
    def assert_low(self, ask, expected=None):
        """That the ask, put low, keeps what the document promises; expected is what comes of it here."""
        with self.subTest(ask):
            low = put_low(GROUND, ask)
            if expected is not None:
                self.assertEqual(low, expected)
            self.assertEqual(plain_head(GROUND, low), plain_head(GROUND, ask))
            self.assertEqual(faults(GROUND, low), [])
            self.assertEqual(put_low(GROUND, low), low)
            self.assertEqual(len(seals_in(low)), len(seals_in(ask)))
            for world in WORLDS:
                self.assertEqual(plain_answer(GROUND, world, low), plain_answer(GROUND, world, ask))
                if not words_in(ask) & {"named", "pairs", "less"}:
                    self.assertEqual(plain_heard(GROUND, world, low), plain_heard(GROUND, world, ask))
            return low

    def assert_hears(self, ask, expected, world=WORLD):
        """What the ask hears when it is put low."""
        with self.subTest(ask):
            self.assertEqual(plain_heard(GROUND, world, put_low(GROUND, ask)), expected)


class WordsTest(Lowering):
    def test_nothing_to_put_low(self):
        for ask in [
            T, where(T, A1), where(T, A1, A2), where(("count", T, "n"), ("is", "n", 5)), where(("seal", T), A1),
            ("keep", T, ("a",)), W, UV, ("both", U, U), ("less", U, U), where(UV, SAME), where(UV, SAME, A1),
        ]:
            self.assert_low(ask, ask)

    def test_keep(self):
        self.assert_low(where(("keep", T, ("b", "a")), A1), ("keep", where(T, A1), ("b", "a")))
        self.assert_low(where(("keep", ("keep", T, ("b", "a")), ("a",)), A1), ("keep", ("keep", where(T, A1), ("b", "a")), ("a",)))

    def test_named(self):
        self.assert_low(where(W, ("is", "w", 1)), ("named", where(U, A1), ("w", "x")))
        swapped = ("named", U, ("d", "a"))
        self.assert_low(where(swapped, ("is", "d", 1)), ("named", where(U, A1), ("d", "a")))
        self.assert_low(where(swapped, A1), ("named", where(U, ("is", "d", 1)), ("d", "a")))
        twice = ("named", swapped, ("a", "x"))
        self.assert_low(where(twice, A1), ("named", ("named", where(U, A1), ("d", "a")), ("a", "x")))

    def test_renamed_columns(self):
        condition = ("or", ("same", "w", "x"), ("not", ("and", ("below", "x", 1), ("empty", "w"))))
        plain = ("or", ("same", "a", "d"), ("not", ("and", ("below", "d", 1), ("empty", "a"))))
        self.assert_low(where(W, condition), ("named", where(U, plain), ("w", "x")))
        # Of has the column here is renamed, those of its table are not.
        swapped = ("named", U, ("d", "a"))
        has = ("has", "u", "a", "a", ("is", "d", 2))
        self.assert_low(where(swapped, has), ("named", where(U, ("has", "u", "d", "a", ("is", "d", 2))), ("d", "a")))
        self.assert_low(where(swapped, ("not", has)))
        nested_has = ("has", "u", "d", "a", ("has", "t", "d", "b", ("is", "a", 2)))
        self.assert_low(where(swapped, nested_has), ("named", where(U, (nested_has[0], "u", "a", *nested_has[3:])), ("d", "a")))

    def test_both(self):
        right = where(U, ("is", "d", 0))
        self.assert_low(where(("both", U, right), A1), ("both", where(U, A1), where(U, ("is", "d", 0), A1)))
        self.assert_low(where(("both", ("both", U, U), ("both", U, U)), A1, ("loud", "d")))

    def test_less(self):
        right = where(U, ("is", "d", 0))
        self.assert_low(where(("less", U, right), A1))
        self.assert_low(where(("less", ("less", U, right), right), ("has", "t", "a", "a", YES)))
        self.assert_low(where(("less", U, where(("both", U, U), A1)), A2))

    def test_count(self):
        ask = where(("count", where(("both", U, U), A1), "n"), ("loud", "n"))
        self.assert_low(ask, where(("count", ("both", where(U, A1), where(U, A1)), "n"), ("loud", "n")))

    def test_rows_of_all_words(self):
        ask = where(("keep", where(("both", W, ("named", where(U, A1), ("w", "x"))), ("is", "x", 0)), ("w",)), ("below", "w", 1))
        self.assert_low(ask)
        self.assert_low(where(("keep", ("less", ("named", ("both", U, U), ("e", "f")), V), ("f",)), ("is", "f", 1)))


class PairsTest(Lowering):
    def test_one_side(self):
        self.assert_low(where(UV, A1), ("pairs", where(U, A1), V))
        self.assert_low(where(UV, ("is", "f", 1)), ("pairs", U, where(V, ("is", "f", 1))))
        self.assert_low(where(UV, ("same", "a", "d")), ("pairs", where(U, ("same", "a", "d")), V))
        self.assert_low(where(UV, ("has", "v", "a", "e", ("is", "f", 1))))

    def test_has_is_of_the_side_of_its_column_here(self):
        # What is within is over the columns of its own table, whatever these are called.
        has = ("has", "v", "d", "f", ("empty", "e"))
        self.assert_low(where(UV, has), ("pairs", where(U, has), V))

    def test_both_sides(self):
        self.assert_low(where(UV, SAME), where(UV, SAME))
        self.assert_low(where(UV, ("or", A1, ("is", "f", 0))), where(UV, ("or", A1, ("is", "f", 0))))

    def test_no_columns(self):
        for condition in [YES, NO, ("or", YES, NO), ("not", ("and", YES, YES))]:
            self.assert_low(where(UV, condition))
            self.assert_low(where(UV, condition, A1, SAME, condition))

    def test_a_no_from_below_is_heard_through_by_neither_side(self):
        self.assert_hears(where(UV, NO, ("loud", "a")), [])
        self.assert_hears(where(UV, NO, ("loud", "f")), [])

    def test_several(self):
        f1 = ("is", "f", 1)
        self.assert_low(where(UV, A1, f1, A2), ("pairs", where(U, A1, A2), where(V, f1)))
        self.assert_low(where(UV, A1, SAME), where(("pairs", where(U, A1), V), SAME))
        self.assert_low(where(UV, ("and", f1, ("and", A1, SAME))), where(("pairs", where(U, A1), where(V, f1)), SAME))

    def test_none_goes_below_one_that_stays(self):
        self.assert_low(where(UV, SAME, A1), where(UV, SAME, A1))
        self.assert_low(where(UV, A1, SAME, A2), where(("pairs", where(U, A1), V), SAME, A2))
        # So what is heard is of rows alone of which the lower one told True.
        self.assert_hears(where(UV, SAME, ("loud", "d")), [("d", 0), ("d", 1), ("d", 2)])
        self.assert_hears(where(UV, ("and", SAME, ("loud", "f"))), [("f", 0), ("f", 1)])
        self.assert_hears(where(UV, ("and", ("same", "d", "e"), ("loud", "a"))), [("a", 0), ("a", 1)])

    def test_pairs_of_pairs(self):
        three = ("pairs", WV, ("count", T, "n"))
        self.assert_low(where(three, ("is", "w", 1)), ("pairs", ("pairs", ("named", where(U, A1), ("w", "x")), V), ("count", T, "n")))
        self.assert_low(where(three, ("same", "w", "e")), ("pairs", where(WV, ("same", "w", "e")), ("count", T, "n")))
        self.assert_low(where(three, ("same", "w", "n")))
        self.assert_low(where(three, ("is", "n", 5)), ("pairs", WV, where(("count", T, "n"), ("is", "n", 5))))
        self.assert_low(where(("pairs", ("count", T, "n"), WV), ("same", "w", "e"), ("is", "n", 5), ("is", "f", 0)))

    def test_under_other_words(self):
        self.assert_low(where(("keep", UV, ("f", "a")), ("is", "f", 1)), ("keep", ("pairs", U, where(V, ("is", "f", 1))), ("f", "a")))
        self.assert_low(where(("named", UV, ("e", "f", "a", "d")), ("is", "e", 1)))
        self.assert_low(where(("named", UV, ("e", "f", "a", "d")), ("same", "e", "a"), ("is", "d", 1)))


class JoinedTest(Lowering):
    def test_and_is_split(self):
        self.assert_low(where(T, ("and", A1, A2)), where(T, A1, A2))
        one, two, three, four = [("below", "a", value) for value in (9, 8, 7, 6)]
        self.assert_low(where(T, ("and", ("and", one, two), ("and", three, four))), where(T, one, two, three, four))
        self.assert_low(where(T, ("and", one, ("and", two, ("and", three, four)))), where(T, one, two, three, four))
        self.assert_low(where(T, ("and", one, two), ("and", three, four)), where(T, one, two, three, four))

    def test_the_left_one_stands_lower(self):
        self.assert_hears(where(T, ("and", A1, ("loud", "a"))), [("a", 1)])
        self.assert_hears(where(T, ("and", ("loud", "a"), A1)), [("a", value) for value in (0, 1, 2, 5, 8)])
        self.assert_hears(where(T, ("and", ("is", "b", 1), ("loud", "a"))), [("a", 2), ("a", 5)])

    def test_other_ands_stay(self):
        for condition in [
            ("or", ("and", A1, A2), YES), ("not", ("and", A1, A2)), ("has", "u", "a", "a", ("and", A1, A2)),
        ]:
            self.assert_low(where(T, condition), where(T, condition))

    def test_and_above_each_word(self):
        loud = ("and", ("not", A1), ("loud", "a"))
        for ask in [
            T, ("keep", T, ("a", "c")), ("named", T, ("b", "c", "a")), UV, WV, ("both", U, where(U, A1)), ("less", U, where(U, A2)),
            ("count", T, "a"), ("seal", T), ("seal", ("keep", T, ("a",))),
        ]:
            self.assert_low(where(ask, loud) if ask != WV else where(ask, ("and", ("is", "e", 0), ("loud", "w"))))


class WheresTest(Lowering):
    def test_wheres_over_wheres(self):
        self.assert_low(where(("keep", T, ("a",)), A2, A1), ("keep", where(T, A2, A1), ("a",)))
        self.assert_low(where(("keep", where(T, ("is", "b", 1)), ("a",)), A2, A1), ("keep", where(T, ("is", "b", 1), A2, A1), ("a",)))
        self.assert_low(where(("both", where(U, A2), U), A1), ("both", where(U, A2, A1), where(U, A1)))

    def test_the_lower_goes_on_standing_lower(self):
        self.assert_hears(where(("keep", T, ("a", "b")), ("is", "b", 1), ("loud", "a")), [("a", 2), ("a", 5)])
        self.assert_hears(where(("keep", where(T, ("is", "b", 1)), ("a", "c")), ("loud", "c")), [("c", -1), ("c", 1)])
        self.assert_hears(where(("both", where(U, ("is", "d", 0)), where(U, ("is", "d", 1))), ("loud", "d")), [("d", 0), ("d", 1)])
        self.assert_hears(where(("less", where(U, ("is", "d", 0)), where(U, A1)), A2, ("loud", "d")), [("d", 0)])
        self.assert_hears(where(("named", where(U, A1), ("x", "y")), ("loud", "y")), [("d", 0)])
        self.assert_hears(where(("pairs", where(U, A1), V), ("loud", "d")), [("d", 0)])


class SealsTest(Lowering):
    def test_no_condition_goes_into_a_seal(self):
        for ask in [("keep", T, ("a",)), ("both", U, U), ("less", U, where(U, A1)), UV, ("named", U, ("d", "a")), where(T, A1)]:
            self.assert_low(where(("seal", ask), A2), where(("seal", ask), A2))
            self.assert_low(where(("seal", ("seal", ask)), A2), where(("seal", ("seal", ask)), A2))

    def test_down_to_a_seal(self):
        sealed = ("seal", where(T, ("is", "b", 1)))
        self.assert_low(where(("keep", sealed, ("a", "c")), A1), ("keep", where(sealed, A1), ("a", "c")))
        self.assert_low(where(("pairs", ("seal", U), ("seal", V)), A1), ("pairs", where(("seal", U), A1), ("seal", V)))

    def test_within_a_seal(self):
        self.assert_low(("seal", where(("keep", T, ("a",)), A1)), ("seal", ("keep", where(T, A1), ("a",))))
        self.assert_low(where(("seal", where(UV, ("and", A1, SAME))), A2), where(("seal", where(("pairs", where(U, A1), V), SAME)), A2))

    def test_what_is_heard_of_a_seal(self):
        for ask in [
            where(("seal", ("less", U, where(U, A1))), ("loud", "a")),
            where(("keep", ("seal", ("less", U, where(U, A1))), ("a",)), ("loud", "a")),
        ]:
            self.assert_hears(ask, [("a", 0), ("a", 2)])
        self.assert_hears(where(("seal", ("named", U, ("x", "y"))), ("loud", "x")), [("x", 0), ("x", 1), ("x", 2)])
        self.assert_hears(where(("seal", ("pairs", U, where(V, NO))), ("loud", "a")), [])


class RefusedTest(unittest.TestCase):
    def assert_no_ask(self, thing):
        with self.subTest(thing), self.assertRaises(NoAsk):
            put_low(GROUND, thing)

    def test_anything(self):
        for thing in anything():
            self.assert_no_ask(thing)
            self.assert_no_ask(("seal", thing))
            self.assert_no_ask(where(T, thing))

    def test_no_plain_asks(self):
        for thing in [
            ("view", "w"), where(T, ("mine", "a")), where(T, ("not", ("mine", "a"))), where(T, ("has", "u", "a", "a", ("mine", "a"))),
            ("rows", "s"), ("keep", T, ()), ("keep", T, ("d",)), ("both", T, U), ("pairs", U, U), where(T, ("loud", "d")),
            ("pairs", ("count", T, "a"), ("pairs", ("count", T, "b"), ("pairs", ("count", T, "c"), ("count", T, "d")))),
            where(("keep", T, ("b",)), ("loud", "a")), ["rows", "t"], where(T, ["yes"]),
        ]:
            self.assert_no_ask(thing)

    def test_plain_asks_of_any_size(self):
        tall = T
        for step in range(30):
            tall = ("seal", where(tall, A1))
        self.assertEqual(put_low(GROUND, tall), tall)
        has = ("has", "u", "a", "a", ("has", "t", "d", "b", ("has", "u", "a", "a", ("loud", "d"))))
        self.assertEqual(put_low(GROUND, where(("keep", T, ("a",)), has)), ("keep", where(T, has), ("a",)))


if __name__ == "__main__":
    unittest.main()
