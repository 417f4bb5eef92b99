"""Points 19 and 20: whether a secret is kept, how it leaks, and which rules to strike."""

import unittest

from rowveil.asks import plain_answer
from rowveil.errors import NoAsk, TooMany
from rowveil.learning import kept, to_strike
from rowveil.settings import is_setting
from rowveil.writing import tried
from tests.test_learns import EIGHT, NINE, NO, NO_SECRETS, S, SMALL, T, YES, let, view
from tests.things import GROUND, anything

NOTHING = ((), ())
# Four tables of two possible rows each, all of one column.
FOUR = tuple((name, 1, (("a", 2, False),)) for name in "pqrs")
P, Q, R = ("rows", "p"), ("rows", "q"), ("rows", "r")
EMPTY_FOUR = ((), (), (), ())


def joined(word, first, *others):
    for other in others:
        first = (word, first, other)
    return first


class KeptTest(unittest.TestCase):
    def assert_kept(self, setting, secret, expected, user=0, **tries):
        self.assertIs(is_setting(setting), True)
        with self.subTest(setting=setting, secret=secret, user=user, **tries):
            self.assertEqual(kept(setting, user, secret, **tries), expected)

    def test_a_user_that_sees_nothing(self):
        for secret in [S, T, ("count", T, "n"), ("pairs", ("named", S, ("c",)), T)]:
            self.assert_kept((SMALL, [], []), secret, ("kept",))
            self.assert_kept((SMALL, [], []), secret, ("kept",), tries=False)
            # All tries are barred then.
            self.assert_kept((SMALL, [], []), secret, ("kept",), tries=True)

    def test_a_user_that_sees_all(self):
        setting = (SMALL, [let("s"), let("t")], [])
        self.assert_kept(setting, S, ("leaks", NOTHING, [(0,)], [S]))
        self.assert_kept(setting, T, ("leaks", NOTHING, [(0, -1)], [T]))
        self.assert_kept(setting, ("count", T, "n"), ("leaks", NOTHING, [(1,)], [T]))

    def test_a_secret_that_never_changes(self):
        setting = (SMALL, [let("s"), let("t")], [view("w", T)])
        for secret in [("where", S, NO), ("count", ("count", S, "n"), "n"), ("less", T, T)]:
            self.assert_kept(setting, secret, ("kept",))
            self.assert_kept(setting, secret, ("kept",), tries=True)

    def test_a_secret_beside_what_is_seen(self):
        self.assert_kept((SMALL, [let("s")], []), T, ("kept",))
        self.assert_kept((SMALL, [let("t", ("is", "a", 0))], []), ("where", T, ("is", "a", 1)), ("kept",))

    def test_rows_that_bar_others(self):
        """Where a row of a key is seen there is no other one of that key."""
        setting = (SMALL, [let("t", ("is", "b", 0))], [])
        secret = ("where", T, ("is", "b", 1))
        self.assert_kept(setting, secret, ("leaks", ((), ((0, -1), (1, 0))), [(0, 1), (1, 1)], [T]))

    def test_the_first_world_is_by_the_order_of_worlds(self):
        setting = (SMALL, [let("t", ("is", "b", 1))], [])
        self.assert_kept(
            setting, ("where", T, ("empty", "b")), ("leaks", ((), ((0, -1), (1, 1))), [(0, -1), (1, -1)], [T]),
        )
        setting = (SMALL, [let("s", ("has", "t", "a", "a", ("is", "b", 1)))], [])
        # Nothing is seen until s has a row; then rows of t show themselves.
        self.assert_kept(setting, ("where", T, ("is", "b", 1)), ("leaks", (((0,),), ((0, 1),)), [], [S]))
        self.assert_kept(setting, ("where", T, ("is", "b", 0)), ("leaks", (((0,),), ((0, 1),)), [(0, 0)], [S]))

    def test_the_first_rows_are_by_the_order_of_lists(self):
        ground = (("t", 0, (("a", 2, False), ("b", 2, True))),)
        setting = (ground, [let("t", ("is", "a", 1))], [])
        turned = ("keep", T, ("b", "a"))
        # In the empty world all answers with a row (.., 1) can be left out. The first world that has such a row has
        # this answer; the first such answer is had in a world behind that.
        first = ((0, -1), (0, 0), (0, 1), (1, -1))
        self.assertEqual(plain_answer(ground, (first,), turned)[1], [(-1, 0), (-1, 1), (0, 0), (1, 0)])
        self.assertLess(first, ((0, -1), (1, -1)))
        self.assert_kept(setting, turned, ("leaks", ((),), [(-1, 0), (-1, 1)], [T]))
        self.assert_kept(setting, ("where", turned, ("is", "a", 1)), ("leaks", ((),), [(-1, 1)], [T]))
        self.assert_kept(setting, T, ("leaks", ((),), [(0, -1), (0, 0), (0, 1), (1, -1)], [T]))

    def test_by_an_own_view(self):
        setting = (SMALL, [], [view("w", ("count", S, "n"), "own", (1,)), view("x", ("rows", "s"), "asker")])
        self.assert_kept(setting, S, ("kept",), 0)
        self.assert_kept(setting, S, ("leaks", NOTHING, [(0,)], [("view", "w")]), 1)
        self.assert_kept(setting, T, ("kept",), 1)

    def test_the_fewest_asks(self):
        # By p and q together, or by r alone.
        views = [view("w", ("count", joined("both", P, Q), "n")), view("x", ("rows", "s"))]
        setting = (FOUR, [let("p"), let("q")], views)
        secret = ("count", joined("both", P, Q), "n")
        self.assert_kept(setting, secret, ("leaks", EMPTY_FOUR, [(1,)], [("view", "w")]))
        self.assert_kept((FOUR, [let("p"), let("q")], []), secret, ("leaks", EMPTY_FOUR, [(1,)], [P, Q]))
        three = ("count", joined("both", P, Q, R), "n")
        rules = [let("r"), let("q"), let("p"), let("s")]
        self.assert_kept((FOUR, rules, []), three, ("leaks", EMPTY_FOUR, [(1,)], [P, Q, R]))

    def test_of_several_the_first_by_their_numbers(self):
        views = [view("z", P), view("w", Q), view("a", joined("both", P, P))]
        secret = ("count", joined("both", P, Q), "n")
        self.assert_kept(
            (FOUR, [let("q")], views), secret, ("leaks", EMPTY_FOUR, [(1,)], [Q, ("view", "z")]),
        )
        self.assert_kept(
            (FOUR, [], views), secret, ("leaks", EMPTY_FOUR, [(1,)], [("view", "z"), ("view", "w")]),
        )
        self.assert_kept(
            (FOUR, [let("p")], views[1:]), secret, ("leaks", EMPTY_FOUR, [(1,)], [P, ("view", "w")]),
        )
        self.assert_kept(
            (FOUR, [let("q"), let("p")], views), secret, ("leaks", EMPTY_FOUR, [(1,)], [P, Q]),
        )

    def test_an_ask_that_parts_much_is_not_taken_where_fewer_do(self):
        """The first ask parts more worlds than any other one, but two others are enough without it."""
        ground = (("t", 1, (("a", 4, False),)),)
        low, high = ("where", T, ("below", "a", 2)), ("where", T, ("not", ("below", "a", 2)))
        middle = ("where", T, ("or", ("is", "a", 1), ("or", ("is", "a", 2), ("is", "a", 3))))
        setting = (ground, [], [view("w", middle), view("x", low), view("y", high)])
        secret = ("count", T, "n")
        self.assert_kept(setting, secret, ("leaks", ((),), [(1,)], [("view", "w"), ("view", "x")]))
        only = ("where", T, ("or", ("is", "a", 1), ("is", "a", 2)))
        setting = (ground, [], [view("w", only), view("x", low), view("y", high)])
        self.assert_kept(setting, secret, ("leaks", ((),), [(1,)], [("view", "x"), ("view", "y")]))

    def test_tries(self):
        setting = (SMALL, [let("s", YES, (), "put"), let("t", ("is", "a", 1), (1,), "put")], [])
        self.assert_kept(setting, S, ("kept",))
        self.assert_kept(setting, S, ("kept",), tries=False)
        self.assert_kept(setting, S, ("leaks", NOTHING, [(0,)], [("try", "s", (0,))]), tries=True)
        both = [("try", "s", (0,)), ("try", "s", (1,))]
        self.assert_kept(setting, ("count", S, "n"), ("leaks", NOTHING, [(1,)], both), tries=True)
        self.assert_kept(setting, T, ("kept",), 0, tries=True)
        self.assert_kept(setting, ("keep", T, ("a",)), ("leaks", NOTHING, [(0,), (1,)], [("try", "t", (1, -1))]), 1, tries=True)

    def test_tries_follow_the_base_asks(self):
        rules = [let(name, YES, (), "put") for name in "pqrs"] + [let("q", ("is", "a", 0))]
        secret = ("count", joined("both", P, Q), "n")
        setting = (FOUR, rules, [view("w", ("where", P, ("is", "a", 1)))])
        self.assert_kept(
            setting, secret, ("leaks", EMPTY_FOUR, [(1,)], [Q, ("view", "w"), ("try", "p", (0,)), ("try", "q", (1,))]),
            tries=True,
        )
        self.assert_kept(
            (FOUR, rules[:4], []), secret, ("leaks", EMPTY_FOUR, [(1,)], [
                ("try", "p", (0,)), ("try", "p", (1,)), ("try", "q", (0,)), ("try", "q", (1,)),
            ]), tries=True,
        )

    def test_all_eight_tries(self):
        setting = (EIGHT, [let("t", YES, (), "put")], [])
        asks = [("try", "t", (value,)) for value in range(8)]
        self.assert_kept(setting, ("count", T, "n"), ("leaks", ((),), [(1,)], asks), tries=True)
        self.assertEqual(tried(setting, ((),), 0, "t", (7,)), "put")

    def test_what_is_told(self):
        told = kept((SMALL, [let("s")], []), 0, S)
        self.assertEqual([type(part) for part in told], [str, tuple, list, list])
        self.assertIs(type(told), tuple)

    def test_no_secrets_and_too_many(self):
        for call in [kept, to_strike]:
            for tries in [False, True]:
                for thing in anything() + NO_SECRETS:
                    with self.subTest(thing), self.assertRaises(NoAsk):
                        call((SMALL, [let("s")], [view("w", S)]), 0, thing, tries=tries)
                for thing in [T, None, ("view", "w"), ("where", T, ("mine", "a"))]:
                    for ground in [NINE, GROUND]:
                        with self.subTest(thing), self.assertRaises(TooMany):
                            call((ground, [let("t")], []), 0, thing, tries=tries)


class StrikeTest(unittest.TestCase):
    def assert_strike(self, setting, secret, expected, user=0, **tries):
        self.assertIs(is_setting(setting), True)
        with self.subTest(setting=setting, secret=secret, user=user, **tries):
            told = to_strike(setting, user, secret, **tries)
            self.assertEqual(told, expected)
            ground, rules, views = setting
            self.assertEqual(to_strike((ground, rules[::-1], views), user, secret, **tries), expected)
            if told is not None:
                left = [rule for rule in rules if rule not in told]
                self.assertEqual(kept((ground, left, views), user, secret, **tries), ("kept",))

    def test_where_it_is_kept(self):
        self.assert_strike((SMALL, [], []), S, [])
        self.assert_strike((SMALL, [let("s")], []), T, [])
        self.assert_strike((SMALL, [let("s"), let("t")], []), ("less", S, S), [])
        self.assert_strike((SMALL, [let("s", YES, (1,))], []), S, [])

    def test_one_rule(self):
        self.assert_strike((SMALL, [let("t"), let("s")], []), S, [let("s")])
        self.assert_strike((SMALL, [let("t"), let("s", YES, (0, 2))], []), S, [let("s", YES, (0, 2))], 2)
        rules = [let("s", ("is", "a", 0)), let("s", ("is", "a", 1)), let("t")]
        self.assert_strike((SMALL, rules, []), ("where", S, ("is", "a", 1)), [let("s", ("is", "a", 1))])

    def test_several_rules_rising(self):
        rules = [let("s", ("is", "a", 1)), let("s", ("is", "a", 0)), let("s", ("below", "a", 1)), let("t")]
        self.assert_strike((SMALL, rules, []), S, sorted(rules[:3]))
        self.assert_strike((SMALL, rules, []), ("where", S, ("is", "a", 0)), [rules[2], rules[1]])

    def test_the_fewest(self):
        # The one of t, which s's rule looks at, is told by the rule of s, too.
        look = let("s", ("has", "t", "a", "a", ("is", "b", 1)))
        rules = [look, let("t", ("is", "b", 1)), let("t", ("is", "b", 0))]
        secret = ("where", T, ("is", "b", 1))
        self.assert_strike((SMALL, rules, []), secret, sorted(rules))
        self.assert_strike((SMALL, rules[:2], []), secret, sorted(rules[:2]))
        self.assert_strike((SMALL, [rules[0], rules[2]], []), secret, sorted([rules[0], rules[2]]))

    def test_of_several_the_first(self):
        """A rule that shows a row where another one does not: without both all is told, without either nothing is."""
        dark, bright = let("s", ("has", "t", "a", "a", ("is", "b", 0))), let("s", ("has", "t", "a", "a", ("is", "b", 1)))
        ground = (("s", 1, (("a", 1, False),)), ("t", 1, (("a", 1, False), ("b", 2, False))))
        must = ("read", "must", "s", (), YES)
        secret = ("rows", "s")
        self.assert_strike((ground, [dark, must], []), secret, [dark])
        self.assert_strike((ground, [bright, dark, must], []), secret, [dark, bright])

    def test_a_rule_that_hides_by_showing_more(self):
        """To strike the wrong rule would tell more: a row that is always seen tells nothing of another table."""
        ground = (("s", 1, (("a", 1, False),)), ("t", 1, (("a", 1, False),)))
        look, all_rows = let("s", ("has", "t", "a", "a", YES)), let("s", ("not", ("has", "t", "a", "a", YES)))
        self.assert_strike((ground, [look, all_rows], []), ("rows", "t"), [])
        self.assert_strike((ground, [look], []), ("rows", "t"), [look])
        third = let("s", ("has", "t", "a", "a", ("is", "a", 0)))
        self.assert_strike((ground, [look, third], []), ("rows", "t"), sorted([look, third]))

    def test_either_of_several_is_enough(self):
        """Whether there is an odd count of rows is told by all of these together only."""
        ground = (("s", 1, (("a", 3, False),)),)
        odd = ("count", ("where", ("count", S, "n"), ("or", ("is", "n", 1), ("is", "n", 3))), "m")
        rules = [let("s", ("is", "a", value)) for value in [2, 0, 1]]
        self.assert_strike((ground, rules, []), odd, [let("s", ("is", "a", 0))])
        self.assert_strike((ground, rules[:2], []), odd, [])
        # One that shows what two others show: it must go with one of these, or else the third one alone.
        more = [*rules, let("s", ("below", "a", 2))]
        self.assert_strike((ground, more, []), odd, [let("s", ("is", "a", 2))])
        # Two that show the same.
        more = [*rules, let("s", ("below", "a", 1)), let("s", ("not", ("below", "a", 2)))]
        self.assert_strike((ground, more, []), odd, [let("s", ("is", "a", 1))])

    def test_none_where_it_is_not_enough(self):
        self.assert_strike((SMALL, [let("s")], [view("w", S)]), S, None)
        self.assert_strike((SMALL, [], [view("w", ("count", S, "n"))]), S, None)
        self.assert_strike((SMALL, [let("s")], [view("w", S, "own", (1,))]), S, [let("s")], 0)
        self.assert_strike((SMALL, [let("s")], [view("w", S, "own", (1,))]), S, None, 1)
        self.assert_strike((SMALL, [let("s")], [view("w", S, "asker")]), S, [let("s")])

    def test_tries(self):
        setting = (SMALL, [let("s"), let("s", YES, (1,), "put"), let("s", YES, (), "drop")], [])
        self.assert_strike(setting, S, [let("s")], 1)
        self.assert_strike(setting, S, [let("s")], 1, tries=False)
        self.assert_strike(setting, S, None, 1, tries=True)
        self.assert_strike(setting, S, [let("s")], 0, tries=True)
        self.assert_strike((SMALL, [let("s", YES, (), "put")], []), S, None, tries=True)
        self.assert_strike((SMALL, [let("s", YES, (), "put")], []), S, [])

    def test_must_rules_and_other_verbs_are_never_struck(self):
        must = ("read", "must", "s", (), ("has", "t", "a", "a", YES))
        put, drop = let("s", YES, (), "put"), let("s", YES, (), "drop")
        self.assert_strike((SMALL, [must, put, drop, let("s")], []), T, [let("s")])
        # Without the must rule there would be nothing to leak.
        self.assert_strike((SMALL, [must, let("s"), let("t", NO)], []), T, [let("s")])
        self.assert_strike((SMALL, [("read", "must", "s", (), YES), put], []), S, [])

    def test_ten_rules(self):
        ground = (("t", 1, (("a", 8, False),)),)
        rules = [let("t", ("is", "a", value)) for value in range(8)] + [let("t", ("below", "a", 9)), let("t", YES, (5,))]
        self.assert_strike((ground, rules, []), T, sorted(rules[:9]))
        self.assert_strike((ground, rules, []), ("where", T, ("is", "a", 3)), [rules[8], rules[3]])
        self.assert_strike((ground, rules, []), T, sorted(rules), 5)


if __name__ == "__main__":
    unittest.main()
