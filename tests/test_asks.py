"""Points 8 and 9: plain asks, their heads and their answers."""

import unittest

from rowveil.asks import plain_answer, plain_head, plain_heard
from rowveil.errors import NoAsk
from tests.things import GROUND, WORLD, anything

YES = ("yes",)
T = ("rows", "t")
U = ("rows", "u")
V = ("rows", "v")
W = ("named", U, ("w", "x"))


def answer(ask, world=WORLD):
    return plain_answer(GROUND, world, ask)


def rows(ask, world=WORLD):
    return answer(ask, world)[1]


class Refusing(unittest.TestCase):
    def assert_no_ask(self, thing):
        with self.subTest(thing):
            with self.assertRaises(NoAsk):
                plain_head(GROUND, thing)
            with self.assertRaises(NoAsk):
                plain_answer(GROUND, WORLD, thing)
            with self.assertRaises(NoAsk):
                plain_heard(GROUND, WORLD, thing)

    def assert_ask(self, thing, head):
        with self.subTest(thing):
            self.assertEqual(plain_head(GROUND, thing), head)
            told = plain_answer(GROUND, WORLD, thing)
            self.assertIsInstance(told, tuple)
            self.assertEqual(told[0], head)
            self.assertIsInstance(told[1], list)
            self.assertEqual(told[1], sorted(set(told[1])))
            self.assertIsInstance(plain_heard(GROUND, WORLD, thing), list)


class AnswersTest(Refusing):
    def test_rows(self):
        self.assert_ask(T, ("a", "b", "c"))
        self.assertEqual(answer(T), (("a", "b", "c"), list(WORLD[0])))
        self.assertEqual(answer(U), (("a", "d"), list(WORLD[1])))
        self.assertEqual(answer(V, ((), (), ())), (("e", "f"), []))

    def test_where_keeps_those_of_which_true_is_told(self):
        self.assert_ask(("where", T, ("is", "b", 1)), ("a", "b", "c"))
        self.assertEqual(rows(("where", T, ("is", "b", 1))), [(2, 1, -1), (5, 1, 1)])
        self.assertEqual(rows(("where", T, YES)), list(WORLD[0]))
        # Of the empty one neither the condition nor its not tells True.
        self.assertEqual(rows(("where", T, ("not", ("is", "b", 1)))), [(1, 0, 0), (8, 3, 2)])
        self.assertEqual(rows(("where", T, ("empty", "b"))), [(0, -1, 2)])

    def test_where_over_a_head_that_was_named(self):
        ask = ("where", ("named", U, ("d", "a")), ("is", "d", 2))
        self.assertEqual(answer(ask), (("d", "a"), [(2, 1)]))

    def test_keep(self):
        self.assert_ask(("keep", T, ("b",)), ("b",))
        self.assertEqual(answer(("keep", T, ("b",))), (("b",), [(-1,), (0,), (1,), (3,)]))
        self.assertEqual(answer(("keep", U, ("d", "a"))), (("d", "a"), [(0, 0), (0, 1), (1, 2), (2, 0)]))
        self.assertEqual(rows(("keep", T, ("c", "b"))), [(-1, 1), (0, 0), (1, 1), (2, -1), (2, 3)])
        self.assertEqual(rows(("keep", T, ("a", "b", "c"))), list(WORLD[0]))

    def test_named(self):
        self.assert_ask(("named", U, ("x", "y")), ("x", "y"))
        self.assertEqual(answer(("named", U, ("d", "a"))), (("d", "a"), list(WORLD[1])))
        self.assertEqual(answer(("named", U, ("a", "d"))), answer(U))

    def test_pairs(self):
        ask = ("pairs", ("keep", U, ("d",)), V)
        self.assert_ask(ask, ("d", "e", "f"))
        self.assertEqual(answer(ask), (
            ("d", "e", "f"), [(d, e, f) for d in (0, 1, 2) for e, f in ((-1, 0), (-1, 1), (0, 1), (2, 0))],
        ))
        self.assertEqual(rows(("pairs", V, U), (WORLD[0], WORLD[1], ())), [])

    def test_both(self):
        named = ("named", V, ("a", "d"))
        self.assert_ask(("both", U, named), ("a", "d"))
        expected = [(-1, 0), (-1, 1), (0, 0), (0, 1), (0, 2), (1, 0), (2, 0), (2, 1)]
        self.assertEqual(rows(("both", U, named)), expected)
        self.assertEqual(rows(("both", named, U)), expected)
        self.assertEqual(rows(("both", U, U)), list(WORLD[1]))

    def test_less(self):
        some = ("where", U, ("is", "a", 0))
        self.assert_ask(("less", U, some), ("a", "d"))
        self.assertEqual(rows(("less", U, some)), [(1, 0), (2, 1)])
        self.assertEqual(rows(("less", some, U)), [])
        self.assertEqual(rows(("less", U, ("named", V, ("a", "d")))), list(WORLD[1]))

    def test_count(self):
        self.assert_ask(("count", T, "n"), ("n",))
        self.assertEqual(answer(("count", T, "n")), (("n",), [(5,)]))
        self.assertEqual(answer(("count", ("keep", T, ("b",)), "b")), (("b",), [(4,)]))
        self.assertEqual(rows(("count", T, "n"), ((), (), ())), [(0,)])
        self.assertEqual(rows(("count", ("count", T, "n"), "m")), [(1,)])

    def test_count_of_many(self):
        full = tuple((a, d) for a in range(3) for d in range(3))
        world = (WORLD[0], full, WORLD[2])
        three = ("pairs", ("pairs", U, W), ("named", U, ("y", "z")))
        self.assertEqual(rows(("count", three, "n"), world), [(729,)])
        self.assertEqual(rows(("where", ("count", three, "n"), ("below", "n", 10)), world), [])

    def test_seal(self):
        self.assert_ask(("seal", T), ("a", "b", "c"))
        self.assertEqual(answer(("seal", ("keep", T, ("b",)))), answer(("keep", T, ("b",))))

    def test_has_within_where(self):
        self.assertEqual(rows(("where", T, ("has", "u", "b", "a", ("is", "d", 1)))), [])
        self.assertEqual(rows(("where", T, ("has", "u", "b", "a", ("is", "d", 0)))), [(1, 0, 0), (2, 1, -1), (5, 1, 1)])

    def test_has_looks_at_all_rows_of_its_own_table(self):
        ask = ("where", ("where", U, ("is", "a", 0)), ("has", "u", "d", "a", ("is", "d", 1)))
        self.assertEqual(rows(ask), [(0, 2)])

    def test_several_in_one(self):
        joined = ("where", ("pairs", U, V), ("same", "d", "e"))
        self.assertEqual(rows(joined), [(0, 0, 0, 1), (0, 2, 2, 0), (1, 0, 0, 1)])
        self.assertEqual(answer(("count", ("keep", joined, ("f",)), "n")), (("n",), [(2,)]))
        self.assertEqual(rows(("less", ("keep", U, ("a",)), ("keep", joined, ("a",)))), [(2,)])


class NamesTest(Refusing):
    def test_names_of_keep(self):
        for names in [("a",), ("c", "a"), ("b", "c", "a")]:
            self.assert_ask(("keep", T, names), names)
        for names in [
            (), ("a", "a"), ("a", "b", "a"), ("d",), ("a", "d"), ("t",), ("a", "b", "c", "d"), ["a"], "a", "abc", None,
            0, True, (None,), (0,), (("a",),), (["a"],), ("a", ["b"]), ("rows",), ("",),
        ]:
            self.assert_no_ask(("keep", T, names))

    def test_names_of_named(self):
        for names in [("a", "d"), ("d", "a"), ("x", "y"), ("abcdefgh", "u")]:
            self.assert_ask(("named", U, names), names)
        for names in [
            (), ("a",), ("a", "b", "c"), ("x", "x"), ["a", "d"], "ad", None, 0, True, (None, "a"), (0, 1), (("a",), "b"),
            (["a"], "b"), ("rows", "a"), ("a", "has"), ("", "a"), ("a", "B"), ("a", "abcdefghi"),
        ]:
            self.assert_no_ask(("named", U, names))

    def test_name_of_count(self):
        for name in ["n", "a", "abcdefgh"]:
            self.assert_ask(("count", T, name), (name,))
        for name in ["", "count", "N", "abcdefghi", None, 0, True, ("n",), ["n"]]:
            self.assert_no_ask(("count", T, name))

    def test_names_in_common(self):
        self.assert_ask(("pairs", T, V), ("a", "b", "c", "e", "f"))
        self.assert_no_ask(("pairs", T, U))
        self.assert_no_ask(("pairs", V, V))
        self.assert_no_ask(("pairs", V, ("named", U, ("x", "f"))))
        self.assert_ask(("pairs", V, ("keep", ("named", U, ("x", "f")), ("x",))), ("e", "f", "x"))

    def test_both_and_less_of_unlike_heads(self):
        for word in ["both", "less"]:
            self.assert_ask((word, U, U), ("a", "d"))
            self.assert_no_ask((word, T, U))
            self.assert_no_ask((word, U, V))
            self.assert_no_ask((word, U, ("keep", U, ("d", "a"))))
            self.assert_no_ask((word, U, ("keep", U, ("a",))))
            self.assert_no_ask((word, ("keep", U, ("a",)), U))
            self.assert_ask((word, ("keep", U, ("a",)), ("keep", T, ("a",))), ("a",))

    def test_tables_that_are_not_there(self):
        for table in ["w", "a", "", "rows", None, 0, True, ("t",), ["t"], GROUND[0]]:
            self.assert_no_ask(("rows", table))


class FormTest(Refusing):
    ASKS = [
        T, ("where", T, YES), ("keep", T, ("a",)), ("named", U, ("x", "y")), ("pairs", U, V), ("both", U, U),
        ("less", U, U), ("count", U, "n"), ("seal", U),
    ]

    def test_each_with_too_few_and_too_many(self):
        for ask in self.ASKS:
            plain_head(GROUND, ask)
            self.assert_no_ask(ask[:-1])
            self.assert_no_ask(ask + (YES,))
            self.assert_no_ask(ask + ("a",))
            self.assert_no_ask(ask + (U,))
            self.assert_no_ask(list(ask))
            self.assert_no_ask((ask,))
            self.assert_no_ask(ask[0])

    def test_wrong_anywhere_within(self):
        for bad in [("rows", "w"), None, "rows t", ("view", "t"), (), ["rows", "u"], ("seal", ("rows",))]:
            for ask in [
                bad, ("where", bad, YES), ("keep", bad, ("a",)), ("named", bad, ("x", "y")), ("pairs", bad, V),
                ("pairs", V, bad), ("both", bad, U), ("both", U, bad), ("less", bad, U), ("less", U, bad),
                ("count", bad, "n"), ("seal", bad), ("count", ("count", ("seal", bad), "n"), "n"),
            ]:
                self.assert_no_ask(ask)

    def test_no_views(self):
        for ask in [("view", "t"), ("view", "staff"), ("seal", ("view", "t")), ("both", T, ("view", "t"))]:
            self.assert_no_ask(ask)

    def test_other_words(self):
        for word in ["Rows", "row", "", "yes", "is", "asks", None, 0, True, ("rows",), ["rows"]]:
            for behind in [("t",), (T,), (T, YES), (T, ("a",)), (U, U)]:
                self.assert_no_ask((word,) + behind)

    def test_conditions_over_the_head(self):
        self.assert_no_ask(("where", U, ("is", "b", 1)))
        self.assert_no_ask(("where", ("keep", T, ("a",)), ("is", "b", 1)))
        self.assert_no_ask(("where", ("named", U, ("x", "y")), ("is", "a", 1)))
        self.assert_ask(("where", ("named", U, ("x", "y")), ("is", "x", 1)), ("x", "y"))
        self.assert_ask(("where", ("pairs", U, V), ("same", "d", "e")), ("a", "d", "e", "f"))
        self.assert_ask(("where", ("count", U, "n"), ("is", "n", 4)), ("n",))
        self.assert_no_ask(("where", ("count", U, "n"), ("is", "a", 4)))

    def test_no_conditions(self):
        for condition in [
            None, "yes", ["yes"], (), ("yes", 1), ("is", "a", 10), ("is", "a", True), ("below", "a", 11), ("is", "a"),
            ("has", "w", "a", "a", YES), ("has", "t", "a", "d", YES), ("not", "a"), ("and", YES), ("or", YES, None), T,
        ]:
            self.assert_no_ask(("where", U, condition))

    def test_no_mine(self):
        mine = ("mine", "a")
        for condition in [
            mine, ("not", mine), ("and", YES, mine), ("or", mine, YES), ("has", "t", "a", "a", mine),
            ("has", "t", "a", "a", ("or", YES, ("not", mine))), ("has", "t", "a", "a", ("has", "u", "a", "a", mine)),
        ]:
            self.assert_no_ask(("where", U, condition))
            self.assert_no_ask(("seal", ("where", U, condition)))

    def test_anything(self):
        for thing in anything():
            self.assert_no_ask(thing)
            self.assert_no_ask(("seal", thing))
            self.assert_no_ask(("where", T, thing))
            self.assert_no_ask(("where", thing, YES))
            if thing != "a":
                self.assert_no_ask(("count", T, thing))


class BoundsTest(Refusing):
    def test_two_pairs_and_three(self):
        one = ("pairs", V, U)
        two = ("pairs", one, W)
        self.assert_ask(two, ("e", "f", "a", "d", "w", "x"))
        self.assert_ask(("pairs", W, one), ("w", "x", "e", "f", "a", "d"))
        self.assert_no_ask(("pairs", two, ("named", U, ("y", "z"))))
        self.assert_no_ask(("pairs", ("named", U, ("y", "z")), two))

    def test_pairs_side_by_side(self):
        one = ("pairs", V, U)
        self.assert_ask(("both", one, one), ("e", "f", "a", "d"))
        self.assert_no_ask(("both", one, ("less", one, one)))
        self.assert_no_ask(("both", ("both", one, one), one))
        self.assert_no_ask(("pairs", ("count", one, "n"), ("count", one, "m")))

    def test_pairs_are_counted_anew_each_time(self):
        ask = ("both", ("pairs", V, U), ("pairs", V, U))
        for step in range(3):
            self.assert_ask(ask, ("e", "f", "a", "d"))

    def test_many_parts(self):
        ask = U
        for step in range(30):
            ask = ("seal", ("where", ask, YES))
        self.assert_ask(ask, ("a", "d"))
        self.assertEqual(rows(ask), list(WORLD[1]))
        wide = U
        for step in range(6):
            wide = ("both", wide, wide)
        self.assertEqual(rows(wide), list(WORLD[1]))

    def test_many_parts_of_a_condition(self):
        condition = ("is", "a", 0)
        for step in range(10):
            condition = ("or", condition, ("and", ("is", "d", 1), ("not", ("is", "a", 1))))
        self.assert_ask(("where", U, condition), ("a", "d"))
        self.assertEqual(rows(("where", U, condition)), [(0, 0), (0, 2), (2, 1)])

    def test_has_within_has(self):
        inner = ("has", "v", "d", "e", ("is", "f", 0))
        self.assertEqual(rows(("where", T, ("has", "u", "b", "a", inner))), [(1, 0, 0)])
        self.assertEqual(rows(("where", T, ("has", "u", "b", "a", ("not", inner)))), [(1, 0, 0), (2, 1, -1), (5, 1, 1)])
        self.assertEqual(rows(("where", T, ("has", "u", "b", "a", ("has", "t", "a", "a", ("has", "v", "c", "e", YES))))), [
            (1, 0, 0), (2, 1, -1), (5, 1, 1),
        ])

    def test_many_has_within_one_another(self):
        ground = (("t", 0, (("a", 1, False), ("b", 9, False))),)
        world = (tuple((0, b) for b in range(9)),)
        condition = ("is", "b", 9)
        for step in range(30):
            condition = ("has", "t", "a", "a", condition)
        self.assertEqual(plain_answer(ground, world, ("where", ("rows", "t"), condition))[1], [])
        self.assertEqual(len(plain_answer(ground, world, ("where", ("rows", "t"), ("not", condition)))[1]), 9)


if __name__ == "__main__":
    unittest.main()
