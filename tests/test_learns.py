"""Points 17 and 18: base asks, worlds that are alike for a user, and what is known of a secret."""

import inspect
import unittest

from rowveil import learning
from rowveil.asked import answer, heard
from rowveil.asks import plain_answer, plain_heard
from rowveil.errors import NoAsk, TooMany
from rowveil.grounds import all_worlds
from rowveil.learning import base_asks, learns, parting
from rowveil.rewriting import put_low, rewritten
from rowveil.settings import is_setting
from tests.things import GROUND, WORLD, anything

YES = ("yes",)
NO = ("not", YES)
# Two possible rows and six.
SMALL = (("s", 1, (("a", 2, False),)), ("t", 1, (("a", 2, False), ("b", 2, True))))
S, T = ("rows", "s"), ("rows", "t")
# Eight possible rows, and nine.
EIGHT = (("t", 0, (("a", 8, False),)),)
NINE = (("s", 0, (("a", 1, False),)), ("t", 0, (("a", 8, False),)))
NO_SECRETS = [("view", "w"), ("where", S, ("mine", "a")), ("keep", ("view", "w"), ("a",)), ("try", "s", (0,)), "rows s"]


def let(table, condition=YES, users=(), verb="read"):
    return (verb, "let", table, users, condition)


def view(name, ask, mode="own", users=()):
    return (name, ask, mode, users)


class BaseAsksTest(unittest.TestCase):
    def assert_base(self, setting, user, expected):
        self.assertIs(is_setting(setting), True)
        with self.subTest(setting=setting, user=user):
            self.assertEqual(base_asks(setting, user), expected)

    def test_tables_in_the_order_of_the_ground(self):
        self.assert_base((GROUND, [], []), 0, [("rows", "t"), ("rows", "u"), ("rows", "v")])
        self.assert_base((SMALL, [let("t")], []), 8, [S, T])

    def test_own_views_in_the_order_of_the_list(self):
        views = [view("z", S), view("b", T), view("y", ("view", "b")), view("a", S)]
        self.assert_base((SMALL, [], views), 0, [S, T, ("view", "z"), ("view", "b"), ("view", "y"), ("view", "a")])

    def test_asker_views_are_none(self):
        views = [view("w", S, "asker"), view("x", S), view("y", ("view", "x"), "asker", (0,)), view("z", S, "asker")]
        self.assert_base((SMALL, [], views), 0, [S, T, ("view", "x")])

    def test_views_of_other_users_are_none(self):
        views = [view("w", S, "own", (1, 3)), view("x", S, "own", (0,)), view("y", S), view("z", S, "asker", (0,))]
        self.assert_base((SMALL, [], views), 0, [S, T, ("view", "x"), ("view", "y")])
        self.assert_base((SMALL, [], views), 3, [S, T, ("view", "w"), ("view", "y")])
        self.assert_base((SMALL, [], views), 2, [S, T, ("view", "y")])

    def test_tables_that_are_not_seen_are_there(self):
        self.assert_base((SMALL, [let("t", NO)], []), 0, [S, T])


class PartingTest(unittest.TestCase):
    def assert_parting(self, setting, world, other, expected, user=0):
        self.assertIs(is_setting(setting), True)
        with self.subTest(world=world, other=other, user=user):
            self.assertEqual(parting(setting, user, world, other), expected)
            self.assertEqual(parting(setting, user, other, world), expected)

    def test_the_first_table_that_parts(self):
        setting = (SMALL, [let("s"), let("t")], [])
        self.assert_parting(setting, (((0,),), ()), ((), ()), S)
        self.assert_parting(setting, (((0,),), ((0, 1),)), (((1,),), ()), S)
        self.assert_parting(setting, (((0,),), ((0, 1),)), (((0,),), ((0, 0),)), T)
        self.assert_parting(setting, (((0,),), ((0, 1),)), (((0,),), ((0, 1),)), None)

    def test_rows_that_are_not_seen_do_not_part(self):
        setting = (SMALL, [let("s", ("mine", "a")), let("t", ("empty", "b"))], [])
        self.assert_parting(setting, (((1,),), ((0, 1),)), ((), ()), None)
        self.assert_parting(setting, (((1,),), ((0, 1),)), ((), ()), S, 1)
        self.assert_parting(setting, (((1,),), ((0, -1),)), ((), ((0, 0),)), T)
        self.assert_parting((SMALL, [], []), (((0,), (1,)), ((0, 0), (1, 1))), ((), ()), None)

    def test_rules_that_look_at_other_rows(self):
        setting = (SMALL, [let("s", ("has", "t", "a", "a", ("is", "b", 1)))], [])
        self.assert_parting(setting, (((0,),), ((0, 1),)), (((0,),), ((0, 0),)), S)
        self.assert_parting(setting, (((0,),), ((1, 1),)), (((0,),), ()), None)

    def test_views_part_behind_tables(self):
        views = [view("w", ("count", T, "n")), view("x", T)]
        setting = (SMALL, [let("s")], views)
        self.assert_parting(setting, ((), ((0, 1),)), ((), ()), ("view", "w"))
        self.assert_parting(setting, ((), ((0, 1),)), ((), ((1, 1),)), ("view", "x"))
        self.assert_parting(setting, (((0,),), ((0, 1),)), ((), ()), S)

    def test_views_that_part_for_their_users_only(self):
        setting = (SMALL, [], [view("w", T, "own", (1, 2)), view("x", T, "asker")])
        self.assert_parting(setting, ((), ((0, 1),)), ((), ()), None, 0)
        self.assert_parting(setting, ((), ((0, 1),)), ((), ()), ("view", "w"), 1)
        self.assert_parting(setting, ((), ((0, 1),)), ((), ()), None, 3)

    def test_mine_in_a_view_is_the_user(self):
        setting = (SMALL, [], [view("w", ("where", S, ("mine", "a")))])
        self.assert_parting(setting, (((1,),), ()), ((), ()), None, 0)
        self.assert_parting(setting, (((1,),), ()), ((), ()), ("view", "w"), 1)

    def test_grounds_of_many_rows(self):
        setting = (GROUND, [let("t"), let("v", ("empty", "e"))], [])
        self.assert_parting(setting, WORLD, WORLD, None)
        self.assert_parting(setting, WORLD, (WORLD[0], (), WORLD[2][:2]), None)
        self.assert_parting(setting, WORLD, (WORLD[0], WORLD[1], ()), ("rows", "v"))
        self.assert_parting(setting, WORLD, ((), (), ()), ("rows", "t"))

    def test_tries_do_not_part(self):
        setting = (SMALL, [let("s", YES, (), "put"), let("t", YES, (), "put")], [])
        self.assert_parting(setting, (((0,),), ((0, 1),)), ((), ()), None)

    def test_alike_worlds_answer_and_hear_the_same(self):
        views = [view("w", ("keep", T, ("a",))), view("x", ("less", S, ("view", "w")), "asker")]
        setting = (SMALL, [let("s"), let("t", ("is", "b", 1))], views)
        loud = ("and", ("loud", "a"), ("not", ("has", "t", "a", "a", ("and", ("loud", "b"), ("is", "b", 0)))))
        asks = [
            S, T, ("view", "w"), ("view", "x"), ("where", S, loud), ("where", ("view", "w"), loud),
            ("where", ("less", ("view", "w"), ("view", "x")), loud), ("count", ("where", ("view", "x"), loud), "n"),
            ("where", ("pairs", ("named", ("view", "w"), ("b",)), S), ("and", ("loud", "b"), ("loud", "a"))),
            ("where", ("keep", ("pairs", T, ("named", S, ("c",))), ("a", "c")), ("and", ("same", "a", "c"), ("loud", "c"))),
        ]
        alike, parted = 0, {}
        worlds = all_worlds(SMALL)
        for world in worlds[::3]:
            for other in worlds:
                ask = parting(setting, 0, world, other)
                parted[ask] = True
                if ask is not None:
                    self.assertNotEqual(answer(setting, world, 0, ask), answer(setting, other, 0, ask))
                    continue
                alike += world != other
                for ask in asks:
                    self.assertEqual(answer(setting, world, 0, ask), answer(setting, other, 0, ask))
                    self.assertEqual(heard(setting, world, 0, ask), heard(setting, other, 0, ask))
                    low = put_low(SMALL, rewritten(setting, 0, ask))
                    self.assertEqual(plain_answer(SMALL, other, low), answer(setting, world, 0, ask))
                    self.assertEqual(plain_heard(SMALL, world, low), plain_heard(SMALL, other, low))
        self.assertEqual(set(parted), {None, T, ("view", "w"), S})
        self.assertGreater(alike, 10)


class LearnsTest(unittest.TestCase):
    def assert_learns(self, setting, world, secret, expected, user=0, tries=None):
        self.assertIs(is_setting(setting), True)
        named = {} if tries is None else {"tries": tries}
        with self.subTest(world=world, secret=secret, user=user, tries=tries):
            self.assertEqual(learns(setting, user, world, secret, **named), expected)

    def test_what_is_seen_is_known(self):
        setting = (SMALL, [let("s")], [])
        self.assert_learns(setting, (((1,),), ()), S, ("knows", [(1,)]))
        self.assert_learns(setting, ((), ()), S, ("knows", []))
        self.assert_learns(setting, (((0,), (1,)), ()), ("count", S, "n"), ("knows", [(2,)]))

    def test_what_is_not_seen_may_be_otherwise(self):
        setting = (SMALL, [let("s")], [])
        self.assert_learns(setting, (((1,),), ()), T, ("may", (((1,),), ((0, -1),))))
        self.assert_learns(setting, (((1,),), ((0, 0), (1, 1))), T, ("may", (((1,),), ())))
        self.assert_learns((SMALL, [], []), (((1,),), ()), S, ("may", ((), ())))
        self.assert_learns((SMALL, [], []), ((), ()), S, ("may", (((0,),), ())))

    def test_the_first_world_in_which_it_is_otherwise(self):
        setting = (SMALL, [let("t", ("empty", "b"))], [])
        secret = ("where", T, ("is", "b", 1))
        self.assert_learns(setting, (((0,),), ((0, -1), (1, 0))), secret, ("may", ((), ((0, -1), (1, 1)))))
        self.assert_learns(setting, (((0,),), ((0, -1), (1, 1))), secret, ("may", ((), ((0, -1),))))
        self.assert_learns(setting, (((0,),), ((0, -1), (1, -1))), secret, ("knows", []))

    def test_what_follows_is_known(self):
        # The row 1 of s shows itself where t has one of that number, and a 1 in it.
        setting = (SMALL, [let("s", ("has", "t", "a", "a", ("is", "b", 1)))], [])
        secret = ("where", T, ("is", "a", 1))
        self.assert_learns(setting, (((1,),), ((1, 1),)), secret, ("knows", [(1, 1)]))
        self.assert_learns(setting, (((1,),), ((1, 0),)), secret, ("may", ((), ())))

    def test_by_an_own_view(self):
        views = [view("w", ("count", S, "n"), "own", (1,))]
        setting = (SMALL, [], views)
        self.assert_learns(setting, (((0,), (1,)), ()), S, ("knows", [(0,), (1,)]), 1)
        self.assert_learns(setting, (((1,),), ()), S, ("may", (((0,),), ())), 1)
        self.assert_learns(setting, (((0,), (1,)), ()), S, ("may", ((), ())), 0)

    def test_a_secret_that_never_changes(self):
        self.assert_learns((SMALL, [], []), (((1,),), ()), ("where", S, NO), ("knows", []))
        self.assert_learns((SMALL, [], []), (((1,),), ()), ("count", ("count", S, "n"), "n"), ("knows", [(1,)]))

    def test_tries(self):
        setting = (SMALL, [let("s", ("is", "a", 1), (), "put")], [])
        world = (((1,),), ())
        secret = ("where", S, ("is", "a", 1))
        self.assert_learns(setting, world, secret, ("may", ((), ())))
        self.assert_learns(setting, world, secret, ("may", ((), ())), tries=False)
        self.assert_learns(setting, world, secret, ("knows", [(1,)]), tries=True)
        self.assert_learns(setting, ((), ()), secret, ("knows", []), tries=True)
        self.assert_learns(setting, world, S, ("may", (((0,), (1,)), ())), tries=True)

    def test_tries_that_are_barred_tell_of_what_bars_them(self):
        setting = (SMALL, [let("s", ("has", "t", "a", "a", YES), (2,), "put")], [])
        secret = ("keep", T, ("a",))
        self.assert_learns(setting, ((), ((1, 0),)), secret, ("knows", [(1,)]), 2, True)
        self.assert_learns(setting, ((), ((1, 0),)), secret, ("may", ((), ())), 1, True)
        self.assert_learns(setting, ((), ((1, 0),)), secret, ("may", ((), ())), 2, False)

    def test_rows_are_told_as_a_list_and_worlds_as_tuples(self):
        told = learns((SMALL, [let("s")], []), 0, (((1,),), ()), S)
        self.assertIs(type(told), tuple)
        self.assertIs(type(told[1]), list)
        told = learns((SMALL, [], []), 0, (((1,),), ()), S)
        self.assertEqual((type(told), type(told[1])), (tuple, tuple))

    def test_no_secrets(self):
        setting = (SMALL, [let("s")], [view("w", S)])
        for tries in [False, True]:
            for thing in anything() + NO_SECRETS:
                with self.subTest(thing), self.assertRaises(NoAsk):
                    learns(setting, 0, ((), ()), thing, tries=tries)

    def test_too_many(self):
        self.assert_learns((EIGHT, [], []), ((),), T, ("may", (((0,),),)))
        for ground in [NINE, GROUND]:
            setting = (ground, [let("t")], [])
            for secret in [T, ("view", "w"), None, ("where", T, ("mine", "a"))]:
                for tries in [False, True]:
                    with self.subTest(secret=secret), self.assertRaises(TooMany):
                        learns(setting, 0, tuple(() for table in ground), secret, tries=tries)

    def test_large_secrets(self):
        """A plain ask may be of any size."""
        secret = S
        for step in range(12):
            secret = ("where", secret, ("not", NO))
        self.assert_learns((SMALL, [let("s")], []), (((1,),), ()), secret, ("knows", [(1,)]))


class InterfaceTest(unittest.TestCase):
    def test_arguments(self):
        for name, listed in [
            ("base_asks", "(setting, user)"),
            ("parting", "(setting, user, world, other)"),
            ("learns", "(setting, user, world, secret, *, tries=False)"),
            ("kept", "(setting, user, secret, *, tries=False)"),
            ("to_strike", "(setting, user, secret, *, tries=False)"),
        ]:
            with self.subTest(name):
                self.assertEqual(str(inspect.signature(getattr(learning, name))), listed)


if __name__ == "__main__":
    unittest.main()
