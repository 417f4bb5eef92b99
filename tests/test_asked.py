"""Points 8 and 13: what a user asks, and is answered."""

import unittest

from rowveil.asked import answer, heard
from rowveil.errors import NoAsk, NoRight
from rowveil.rewriting import rewritten
from rowveil.settings import is_setting
from tests.things import GROUND, WORLD, anything, nested

YES = ("yes",)
NO = ("not", YES)
T, U, V = ("rows", "t"), ("rows", "u"), ("rows", "v")


def let(table, condition=YES, users=()):
    return ("read", "let", table, users, condition)


def count(ask, name="n"):
    return ("count", ask, name)


class Asking(unittest.TestCase):
    RULES = []
    VIEWS = []

    def setUp(self):
        self.setting = (GROUND, list(self.RULES), list(self.VIEWS))
        self.assertIs(is_setting(self.setting), True)

    def rows(self, ask, user=0):
        return answer(self.setting, WORLD, user, ask)[1]

    def calls(self, thing, user):
        """Each way of asking."""
        return [
            lambda: answer(self.setting, WORLD, user, thing),
            lambda: heard(self.setting, WORLD, user, thing),
            lambda: rewritten(self.setting, user, thing),
        ]

    def assert_answered(self, ask, head, rows, user=0):
        with self.subTest(ask=ask, user=user):
            told = answer(self.setting, WORLD, user, ask)
            self.assertEqual(told, (head, rows))
            self.assertIsInstance(told, tuple)
            self.assertIsInstance(told[1], list)

    def assert_no_ask(self, thing, user=0):
        with self.subTest(thing=thing, user=user):
            for call in self.calls(thing, user):
                with self.assertRaises(NoAsk):
                    call()

    def assert_no_right(self, thing, user, name):
        with self.subTest(thing=thing, user=user):
            for call in self.calls(thing, user):
                with self.assertRaises(NoRight) as caught:
                    call()
                self.assertEqual(caught.exception.name, name)


class SeenAloneTest(Asking):
    RULES = [
        let("t", ("below", "a", 3)), let("t", YES, (8,)), let("u", ("not", ("is", "a", 0))), let("u", YES, (8,)),
        let("v", YES, (0, 8)),
    ]

    def test_rows(self):
        self.assert_answered(T, ("a", "b", "c"), [(0, -1, 2), (1, 0, 0), (2, 1, -1)])
        self.assert_answered(T, ("a", "b", "c"), list(WORLD[0]), 8)
        self.assert_answered(V, ("e", "f"), list(WORLD[2]), 0)
        self.assert_answered(V, ("e", "f"), [], 1)

    def test_each_word(self):
        self.assert_answered(("where", U, ("is", "d", 0)), ("a", "d"), [(1, 0)])
        self.assert_answered(("keep", T, ("b",)), ("b",), [(-1,), (0,), (1,)])
        self.assert_answered(("named", U, ("x", "y")), ("x", "y"), [(1, 0), (2, 1)])
        self.assert_answered(("pairs", U, count(T)), ("a", "d", "n"), [(1, 0, 3), (2, 1, 3)])
        self.assert_answered(("both", U, ("named", V, ("a", "d"))), ("a", "d"), [
            (-1, 0), (-1, 1), (0, 1), (1, 0), (2, 0), (2, 1),
        ])
        self.assert_answered(("less", U, ("where", U, ("is", "a", 1))), ("a", "d"), [(2, 1)])
        self.assert_answered(count(T), ("n",), [(3,)])
        self.assert_answered(count(T), ("n",), [(5,)], 8)
        self.assert_answered(count(V), ("n",), [(0,)], 1)
        self.assert_answered(("seal", U), ("a", "d"), [(1, 0), (2, 1)])

    def test_has_is_of_what_is_seen(self):
        has = ("has", "u", "a", "a", YES)
        self.assertEqual(self.rows(("where", T, has)), [(1, 0, 0), (2, 1, -1)])
        self.assertEqual(self.rows(("where", T, has), 8), [(0, -1, 2), (1, 0, 0), (2, 1, -1)])
        self.assertEqual(self.rows(("where", T, ("not", has))), [(0, -1, 2)])
        self.assertEqual(self.rows(("where", count(T, "n"), ("has", "t", "n", "a", YES))), [])
        self.assertEqual(self.rows(("where", count(T, "n"), ("has", "t", "n", "a", YES)), 8), [(5,)])

    def test_mine(self):
        for user in range(9):
            here = [row for row in WORLD[0] if row[0] < 3 or user == 8]
            self.assertEqual(self.rows(("where", T, ("mine", "a")), user), [row for row in here if row[0] == user])
            named = ("where", ("named", T, ("b", "x", "y")), ("not", ("mine", "x")))
            self.assertEqual(self.rows(named, user), [row for row in here if row[1] not in (-1, user)])
        self.assertEqual(self.rows(("where", T, ("has", "u", "a", "a", ("mine", "d"))), 1), [(2, 1, -1)])

    def test_loud_tells_true(self):
        self.assertEqual(self.rows(("where", U, ("loud", "a"))), [(1, 0), (2, 1)])
        self.assertEqual(self.rows(("where", U, ("not", ("loud", "a")))), [])

    def test_the_empty_world(self):
        self.assertEqual(answer(self.setting, ((), (), ()), 8, T), (("a", "b", "c"), []))
        self.assertEqual(answer(self.setting, ((), (), ()), 8, count(T)), (("n",), [(0,)]))


class RulesLookAtAllTest(Asking):
    RULES = [let("t", ("has", "u", "a", "a", ("mine", "d")))]

    def test_has_in_a_rule_and_in_an_ask(self):
        self.assertEqual(self.rows(T, 0), [(0, -1, 2), (1, 0, 0)])
        self.assertEqual(self.rows(("where", T, ("has", "u", "a", "a", YES)), 0), [])
        self.assertEqual(self.rows(("where", T, ("has", "t", "a", "a", YES)), 0), [(0, -1, 2), (1, 0, 0)])
        self.assertEqual(self.rows(T, 5), [])


class ViewsTest(Asking):
    RULES = [let("t", ("below", "a", 2)), let("u", ("is", "a", 2))]
    VIEWS = [
        ("own", ("where", T, ("has", "u", "a", "a", YES)), "own", ()),
        ("asker", ("where", T, ("has", "u", "a", "a", YES)), "asker", ()),
        ("me", ("where", U, ("mine", "d")), "own", (0, 1)),
        ("all", ("both", U, ("view", "me")), "asker", (0, 1, 2)),
    ]
    HEAD = ("a", "b", "c")

    def test_own_eyes(self):
        self.assert_answered(("view", "own"), self.HEAD, [(0, -1, 2), (1, 0, 0), (2, 1, -1)])
        self.assert_answered(("where", ("view", "own"), ("is", "a", 2)), self.HEAD, [(2, 1, -1)])

    def test_askers_eyes(self):
        # Of t the rows 0 and 1 are seen, of u the row (2, 1).
        self.assert_answered(("view", "asker"), self.HEAD, [])
        self.assert_answered(T, self.HEAD, [(0, -1, 2), (1, 0, 0)])

    def test_has_above_a_view_is_of_what_is_seen(self):
        self.assert_answered(("where", ("view", "own"), ("has", "u", "a", "a", YES)), self.HEAD, [(2, 1, -1)])

    def test_mine_is_of_the_asking_user(self):
        self.assert_answered(("view", "me"), ("a", "d"), [(0, 0), (1, 0)], 0)
        self.assert_answered(("view", "me"), ("a", "d"), [(2, 1)], 1)
        self.assert_no_right(("view", "me"), 2, "me")

    def test_own_within_askers(self):
        self.assert_answered(("view", "all"), ("a", "d"), [(0, 0), (1, 0), (2, 1)], 0)
        self.assert_answered(("view", "all"), ("a", "d"), [(2, 1)], 1)
        self.assert_no_right(("view", "all"), 2, "me")
        self.assert_no_right(("view", "all"), 3, "all")

    def test_views_and_tables_have_names_apart(self):
        self.assert_no_ask(("view", "t"))
        self.assert_no_ask(("rows", "own"))

    def test_each_word_over_views(self):
        own = ("view", "own")
        self.assert_answered(count(own), ("n",), [(3,)])
        self.assert_answered(("keep", own, ("b",)), ("b",), [(-1,), (0,), (1,)])
        self.assert_answered(("less", own, T), self.HEAD, [(2, 1, -1)])
        self.assert_answered(("both", T, own), self.HEAD, [(0, -1, 2), (1, 0, 0), (2, 1, -1)])
        self.assert_answered(("pairs", ("keep", own, ("b",)), U), ("b", "a", "d"), [(-1, 2, 1), (0, 2, 1), (1, 2, 1)])
        self.assert_answered(("named", ("seal", own), ("x", "y", "z")), ("x", "y", "z"), [(0, -1, 2), (1, 0, 0), (2, 1, -1)])

    def test_a_table_seen_and_a_view_of_it(self):
        self.assert_answered(("both", ("view", "asker"), ("view", "own")), self.HEAD, [(0, -1, 2), (1, 0, 0), (2, 1, -1)])
        self.assert_answered(("less", ("view", "own"), ("view", "own")), self.HEAD, [])


class WithinTest(Asking):
    """An asker's view, one with own eyes that has it, and one of each that has this one."""

    RULES = [let("u", ("is", "a", 1))]
    VIEWS = [
        ("low", ("where", U, ("has", "t", "a", "a", YES)), "asker", (5,)),
        ("mid", ("view", "low"), "own", (0, 1)),
        ("high", ("where", ("both", ("view", "mid"), U), YES), "asker", (0, 2)),
        ("top", ("both", ("view", "high"), ("view", "low")), "own", ()),
    ]
    ALL = [(0, 0), (0, 2), (1, 0), (2, 1)]

    def test_own_eyes_stay_own_whatever_is_within(self):
        self.assert_answered(("view", "mid"), ("a", "d"), self.ALL)
        for user in range(9):
            self.assert_answered(("view", "top"), ("a", "d"), self.ALL, user)

    def test_an_askers_view_alone(self):
        # It is for the user 5 only, who sees of t nothing.
        self.assert_answered(("view", "low"), ("a", "d"), [], 5)
        self.assert_no_right(("view", "low"), 0, "low")

    def test_own_within_an_askers(self):
        self.assert_answered(("view", "high"), ("a", "d"), self.ALL, 0)

    def test_rights_within_an_askers(self):
        self.assert_no_right(("view", "high"), 2, "mid")
        self.assert_no_right(("view", "high"), 1, "high")

    def test_no_rights_within_own(self):
        self.assert_answered(("view", "mid"), ("a", "d"), self.ALL, 1)
        self.assert_no_right(("view", "mid"), 2, "mid")


class RightsTest(Asking):
    RULES = [let("t"), let("u")]
    VIEWS = [
        ("one", T, "own", (1,)),
        ("two", T, "asker", (2,)),
        ("twain", ("less", ("view", "two"), ("view", "one")), "asker", (1, 2, 3)),
        ("sealed", ("less", ("view", "two"), ("view", "one")), "own", (4,)),
    ]

    def test_the_first_from_the_left(self):
        one, two = ("view", "one"), ("view", "two")
        for word in ["both", "less"]:
            self.assert_no_right((word, one, two), 0, "one")
            self.assert_no_right((word, two, one), 0, "two")
            self.assert_no_right((word, one, two), 1, "two")
            self.assert_no_right((word, two, one), 2, "one")
            self.assert_no_right((word, T, (word, T, one)), 0, "one")
            self.assert_no_right((word, (word, T, two), one), 0, "two")
        self.assert_no_right(("pairs", count(two, "k"), count(one, "n")), 0, "two")
        self.assert_no_right(("pairs", count(T, "k"), count(one, "n")), 0, "one")

    def test_within_each_word(self):
        one = ("view", "one")
        for ask in [
            one, ("where", one, YES), ("keep", one, ("a",)), ("named", one, ("x", "y", "z")), count(one), ("seal", one),
            ("where", one, NO), count(("seal", ("keep", one, ("b",)))),
        ]:
            self.assert_no_right(ask, 0, "one")
            self.rows(ask, 1)

    def test_an_askers_view_as_its_ask_in_its_place(self):
        twain = ("view", "twain")
        self.assert_no_right(twain, 0, "twain")
        self.assert_no_right(twain, 1, "two")
        self.assert_no_right(twain, 2, "one")
        self.assert_no_right(twain, 3, "two")
        self.assert_no_right(("both", twain, ("view", "one")), 0, "twain")
        self.assert_no_right(("both", ("view", "one"), twain), 3, "one")
        self.assert_no_right(("both", twain, ("view", "one")), 3, "two")
        self.assert_no_right(("both", ("view", "sealed"), twain), 3, "sealed")

    def test_nothing_of_what_is_within_an_own_view(self):
        self.assert_answered(("view", "sealed"), ("a", "b", "c"), [], 4)
        self.assert_no_right(("view", "sealed"), 1, "sealed")
        self.assert_no_right(("both", ("view", "sealed"), ("view", "one")), 4, "one")

    def test_refused_whatever_the_world(self):
        with self.assertRaises(NoRight):
            answer(self.setting, ((), (), ()), 0, ("view", "one"))

    def test_no_ask_goes_ahead(self):
        one = ("view", "one")
        self.assert_no_ask(("both", one, U))
        self.assert_no_ask(("both", one, ("rows", "s")))
        self.assert_no_ask(("where", one, ("is", "d", 1)))
        self.assert_no_ask(("both", one, ("view", "none")))
        self.assert_no_ask(("less", ("view", "twain"), ("keep", T, ("a",))), 1)


class NoAskTest(Asking):
    RULES = [let("t")]
    VIEWS = [
        ("w", ("pairs", count(T, "k"), count(U, "n")), "own", ()),
        ("x", ("both", ("view", "w"), ("view", "w")), "asker", ()),
        ("y", ("named", U, ("x", "y")), "own", ()),
    ]

    def tall(self, ask, parts):
        for step in range(parts):
            ask = ("seal", ask)
        return ask

    def test_anything(self):
        for thing in anything():
            self.assert_no_ask(thing)
            self.assert_no_ask(("seal", thing))
            self.assert_no_ask(("where", T, thing))
            self.assert_no_ask(("view", thing))
            self.assert_no_ask(("both", T, thing))
            if thing != ("a",):
                self.assert_no_ask(("keep", T, thing))

    def test_views(self):
        for name in ["t", "z", "", "W", "ww", None, 0, True, ("w",), ["w"]]:
            self.assert_no_ask(("view", name))
        for thing in [("view",), ("view", "w", "w"), ["view", "w"], ("View", "w"), ("view", ("view", "w"))]:
            self.assert_no_ask(thing)

    def test_heads_of_views(self):
        self.assert_no_ask(("where", ("view", "y"), ("is", "a", 0)))
        self.assert_no_ask(("pairs", ("view", "y"), ("view", "y")))
        self.assert_no_ask(("both", ("view", "y"), U))
        self.assertEqual(self.rows(("where", ("view", "y"), ("is", "x", 2))), [(2, 1)])
        self.assertEqual(self.rows(("where", ("view", "y"), ("same", "x", "y"))), [(0, 0)])

    def test_parts(self):
        self.assertEqual(len(self.rows(self.tall(T, 7))), 5)
        self.assert_no_ask(self.tall(T, 8))
        self.assertEqual(self.rows(self.tall(("view", "x"), 7)), [(5, 4)])
        self.assert_no_ask(self.tall(("view", "x"), 8))
        self.assertEqual(self.rows(("less", self.tall(T, 2), self.tall(T, 3))), [])
        self.assert_no_ask(("less", self.tall(T, 3), self.tall(T, 3)))

    def test_parts_of_conditions(self):
        chain = YES
        for step in range(7):
            chain = ("not", chain)
        self.assertEqual(self.rows(("where", T, chain)), [])
        self.assert_no_ask(("where", T, ("not", chain)))
        inner = ("has", "u", "a", "a", YES)
        self.assert_no_ask(("where", T, ("has", "u", "a", "a", inner)))
        self.assert_no_ask(("where", T, ("has", "u", "a", "a", ("not", inner))))

    def test_pairs(self):
        two = ("pairs", count(T, "a"), ("pairs", count(T, "b"), count(T, "c")))
        self.assertEqual(self.rows(two), [(5, 5, 5)])
        self.assert_no_ask(("pairs", count(T, "d"), two))

    def test_pairs_of_views(self):
        once, twice = ("view", "w"), ("view", "x")
        self.assertEqual(self.rows(("both", once, once)), [(5, 4)])
        self.assert_no_ask(("both", once, ("both", once, once)))
        self.assertEqual(self.rows(twice), [(5, 4)])
        self.assert_no_ask(("both", twice, once))
        self.assertEqual(self.rows(("pairs", once, count(T, "z"))), [(5, 4, 5)])
        self.assert_no_ask(("pairs", twice, count(T, "z")))

    def test_the_same_thing_within_itself_again_and_again(self):
        self.assert_no_ask(nested(lambda thing: ("both", thing, thing), 39))
        self.assert_no_ask(("where", T, nested(lambda thing: ("or", thing, thing), 37)))


if __name__ == "__main__":
    unittest.main()
