"""Points 10 and 11: what a rule, a view and a setting are."""

import unittest

from rowveil.settings import is_setting
from tests.things import GROUND, anything, nested

YES = ("yes",)
T = ("rows", "t")
U = ("rows", "u")

# What anything() has that may be the users of a rule or a view.
USERS_AMONG = [(), (0,), (1, 2, 3)]


def rule(verb="read", kind="let", table="t", users=(), condition=YES):
    return (verb, kind, table, users, condition)


def view(name="w", ask=T, mode="own", users=()):
    return (name, ask, mode, users)


def chain(parts):
    """A condition of so many parts."""
    condition = YES
    for step in range(parts - 1):
        condition = ("not", condition)
    return condition


def tall(ask, parts):
    """The ask with so many seals above it."""
    for step in range(parts):
        ask = ("seal", ask)
    return ask


def paired(name, ask=("count", T, "n")):
    """An ask with one pair, whose head begins with the name."""
    return ("pairs", ("count", T, name), ask)


class Telling(unittest.TestCase):
    def assert_setting(self, thing, expected):
        with self.subTest(thing):
            self.assertIs(is_setting(thing), expected)

    def assert_rules(self, rules, expected):
        self.assert_setting((GROUND, rules, []), expected)

    def assert_views(self, views, expected):
        self.assert_setting((GROUND, [], views), expected)


class RulesTest(Telling):
    def test_none(self):
        self.assert_rules([], True)

    def test_verbs(self):
        for verb in ["read", "put", "drop"]:
            self.assert_rules([rule(verb=verb)], True)
        for verb in ["turn", "ask", "Read", "", "let", None, 0, True, ("read",), ["read"]]:
            self.assert_rules([rule(verb=verb)], False)

    def test_kinds(self):
        for kind in ["let", "must"]:
            self.assert_rules([rule(kind=kind)], True)
        for kind in ["lets", "may", "", "read", None, 1, False, ("must",), ["let"]]:
            self.assert_rules([rule(kind=kind)], False)

    def test_tables(self):
        for table in ["t", "u"]:
            self.assert_rules([rule(table=table)], True)
        for table in ["s", "a", "", "T", None, 0, GROUND[0], ("t",), ["t"]]:
            self.assert_rules([rule(table=table)], False)

    def test_users(self):
        for users in [(), (0,), (8,), (0, 8), (3, 4, 5), (0, 1, 2, 3), (5, 6, 7, 8), (1, 3, 6, 8)]:
            self.assert_rules([rule(users=users)], True)
        for users in [
            (0, 1, 2, 3, 4), (1, 0), (0, 2, 1), (1, 1), (0, 3, 3), (-1,), (9,), (-1, 0), (0, 9), (10 ** 29,),
            (True,), (False,), (0, True), (False, 1), (None,), ("0",), ((0,),), ([0],), [0], [], [0, 1], 0, None, "", "0",
            True, ((),),
        ]:
            self.assert_rules([rule(users=users)], False)

    def test_conditions(self):
        for condition in [
            YES, ("is", "a", 9), ("below", "b", 10), ("same", "a", "c"), ("mine", "a"), ("empty", "b"),
            ("has", "u", "a", "d", ("mine", "a")), ("not", YES), ("and", YES, YES), ("or", YES, ("mine", "c")),
        ]:
            self.assert_rules([rule(condition=condition)], True)
            self.assert_rules([rule("put", "must", condition=condition)], True)
        for condition in [
            "yes", ["yes"], ("is", "a", 10), ("is", "a", True), ("below", "a", 11), ("no",), (), None, 0,
            ("has", "u", "a", "b", YES), ("has", "s", "a", "a", YES), ("has", "u", "a", "a", ("has", "t", "a", "a", YES)),
        ]:
            self.assert_rules([rule(condition=condition)], False)

    def test_columns_that_the_table_has_not(self):
        for word in ["mine", "empty"]:
            self.assert_rules([rule(table="t", condition=(word, "c"))], True)
            self.assert_rules([rule(table="t", condition=(word, "d"))], False)
            self.assert_rules([rule(table="u", condition=(word, "d"))], True)
            self.assert_rules([rule(table="u", condition=(word, "b"))], False)
        self.assert_rules([rule(table="u", condition=("same", "a", "b"))], False)
        self.assert_rules([rule(table="u", condition=("has", "t", "b", "a", YES))], False)
        self.assert_rules([rule(table="u", condition=("has", "t", "d", "b", ("is", "c", 0)))], True)
        self.assert_rules([rule(table="u", condition=("has", "t", "d", "b", ("is", "d", 0)))], False)

    def test_eight_parts_and_nine(self):
        self.assert_rules([rule(condition=chain(8))], True)
        self.assert_rules([rule(condition=chain(9))], False)
        self.assert_rules([rule(condition=("has", "u", "a", "a", chain(7)))], True)
        self.assert_rules([rule(condition=("has", "u", "a", "a", chain(8)))], False)

    def test_no_loud(self):
        loud = ("loud", "a")
        for condition in [
            loud, ("not", loud), ("and", YES, loud), ("and", loud, YES), ("or", YES, loud), ("or", loud, YES),
            ("not", ("not", ("and", ("or", YES, loud), YES))), ("has", "u", "a", "a", loud),
            ("not", ("has", "u", "a", "a", ("and", YES, ("not", loud)))),
        ]:
            for kind in ["let", "must"]:
                self.assert_rules([rule(kind=kind, condition=condition)], False)
                self.assert_rules([rule(), rule("drop", kind, condition=condition)], False)

    def test_counts_of_parts(self):
        whole = rule()
        for at in range(5):
            self.assert_rules([whole[:at]], False)
            self.assert_rules([whole[:at] + whole[at + 1:]], False)
        self.assert_rules([whole + (YES,)], False)
        self.assert_rules([whole + ((),)], False)
        self.assert_rules([list(whole)], False)
        self.assert_rules([(whole,)], False)

    def test_ten_and_eleven(self):
        rules = [rule(users=(user,)) for user in range(9)] + [rule("put")] + [rule("drop")]
        self.assert_rules(rules[:10], True)
        self.assert_rules(rules[:10][::-1], True)
        self.assert_rules(rules, False)
        self.assert_rules([rule()] * 11, False)

    def test_none_twice(self):
        one, other = rule(condition=("is", "a", 1)), rule(condition=("is", "a", 2))
        self.assert_rules([one, other], True)
        self.assert_rules([one, one], False)
        self.assert_rules([one, other, rule(condition=("is", "a", 1))], False)
        self.assert_rules([other, one, one], False)
        self.assert_rules([one, rule(kind="must", condition=("is", "a", 1))], True)
        self.assert_rules([one, rule(users=(0,), condition=("is", "a", 1))], True)

    def test_any_order(self):
        mixed = [
            rule("read", "let", "t", (), ("not", YES)), rule("read", "let", "t", (), ("and", YES, YES)),
            rule("read", "let", "t", (), YES), rule("read", "let", "t", (0,), YES), rule("drop", "let", "v", (), YES),
            rule("read", "let", "t", (), ("not", ("is", "a", 0))), rule("read", "let", "t", (), ("is", "a", 0)),
            rule("read", "let", "t", (), ("has", "u", "a", "a", YES)), rule("read", "let", "t", (), ("same", "a", "b")),
        ]
        self.assert_rules(mixed, True)
        self.assert_rules(mixed[::-1], True)

    def test_a_list_of_tuples(self):
        self.assert_rules((), False)
        self.assert_rules((rule(),), False)
        self.assert_rules(rule(), False)
        self.assert_rules(None, False)
        self.assert_rules([rule(), None], False)

    def test_anything(self):
        for thing in anything():
            self.assert_rules([thing], False)
            for at in range(5):
                if at != 3 or thing not in USERS_AMONG:
                    self.assert_rules([rule()[:at] + (thing,) + rule()[at + 1:]], False)
            if thing != []:
                self.assert_rules(thing, False)


class ViewsTest(Telling):
    def test_none(self):
        self.assert_views([], True)

    def test_names(self):
        for name in ["w", "t", "abcdefgh", "own"]:
            self.assert_views([view(name=name)], True)
        for name in ["", "abcdefghi", "W", "w1", "a b", "view", "rows", "yes", None, 0, True, ("w",), ["w"]]:
            self.assert_views([view(name=name)], False)

    def test_modes(self):
        for mode in ["own", "asker"]:
            self.assert_views([view(mode=mode)], True)
        for mode in ["Own", "askers", "", "let", None, 0, True, ("own",), ["own"]]:
            self.assert_views([view(mode=mode)], False)

    def test_users(self):
        for users in [(), (0,), (8,), (0, 1, 2, 3), (1, 3, 6, 8)]:
            self.assert_views([view(users=users)], True)
        for users in [(0, 1, 2, 3, 4), (1, 0), (1, 1), (-1,), (9,), (True,), (0, True), (None,), [0], [], 0, None, "0"]:
            self.assert_views([view(users=users)], False)

    def test_asks(self):
        for ask in [
            T, ("where", T, ("mine", "a")), ("keep", T, ("c", "a")), ("named", U, ("x", "y")), ("both", U, U),
            ("pairs", U, ("rows", "v")), ("less", U, U), ("count", T, "n"), ("seal", T),
            ("where", T, ("has", "u", "a", "a", ("mine", "d"))), ("where", ("named", U, ("x", "y")), ("is", "x", 1)),
        ]:
            self.assert_views([view(ask=ask)], True)
        for ask in [
            ("rows", "s"), ("rows", "w"), ("where", T, ("is", "d", 1)), ("keep", T, ()), ("keep", T, ("d",)),
            ("named", U, ("x",)), ("both", T, U), ("pairs", T, U), ("less", U, T), ("count", T, "count"), ("seal", YES),
            ("where", ("named", U, ("x", "y")), ("is", "a", 1)), ["rows", "t"], "t", None, (), YES,
            ("where", T, ("has", "u", "a", "a", ("has", "u", "a", "a", YES))), ("where", T, chain(9)),
        ]:
            self.assert_views([view(ask=ask)], False)

    def test_no_loud(self):
        loud = ("loud", "a")
        for condition in [loud, ("not", ("or", YES, loud)), ("has", "u", "a", "a", loud), ("and", loud, YES)]:
            for mode in ["own", "asker"]:
                self.assert_views([view(ask=("where", T, condition), mode=mode)], False)
                deep = ("less", U, ("where", U, condition))
                self.assert_views([view(ask=("count", ("seal", deep), "n"), mode=mode)], False)

    def test_views_ahead(self):
        second = view("x", ("where", ("view", "w"), ("is", "a", 1)))
        self.assert_views([view(), second], True)
        self.assert_views([second, view()], False)
        self.assert_views([second], False)
        self.assert_views([view("x", ("view", "x"))], False)
        self.assert_views([view("x", ("both", T, ("view", "x")))], False)
        self.assert_views([view("t", T), view("x", ("view", "t"))], True)
        self.assert_views([view(), view("x", ("view", "t"))], False)
        self.assert_views([view(), second, view("y", ("less", ("view", "x"), ("view", "w")))], True)
        self.assert_views([view(), view("y", ("view", "x")), second], False)
        for name in [None, 0, True, ("w",), ["w"], [], "", T]:
            self.assert_views([view(), view("x", ("view", name))], False)

    def test_the_modes_and_users_of_views_ahead_make_no_difference(self):
        for mode in ["own", "asker"]:
            for users in [(), (0,), (8,)]:
                self.assert_views([view(mode=mode, users=users), view("x", ("view", "w"), "asker", (1,))], True)
                self.assert_views([view(mode=mode, users=users), view("x", ("view", "w"), "own", ())], True)

    def test_heads_of_views(self):
        named = view("w", ("named", U, ("x", "y")))
        self.assert_views([named, view("x", ("where", ("view", "w"), ("mine", "y")))], True)
        self.assert_views([named, view("x", ("where", ("view", "w"), ("mine", "a")))], False)
        self.assert_views([named, view("x", ("pairs", ("view", "w"), U))], True)
        self.assert_views([named, view("x", ("pairs", ("view", "w"), ("view", "w")))], False)
        self.assert_views([named, view("x", ("both", ("view", "w"), U))], False)
        self.assert_views([named, view("x", ("keep", ("view", "w"), ("y",))), view("y", ("count", ("view", "x"), "n"))], True)

    def test_eight_parts_and_nine(self):
        self.assert_views([view(ask=tall(T, 7))], True)
        self.assert_views([view(ask=tall(T, 8))], False)
        self.assert_views([view(ask=("both", tall(U, 2), tall(U, 3)))], True)
        self.assert_views([view(ask=("both", tall(U, 3), tall(U, 3)))], False)

    def test_the_parts_of_views_do_not_count(self):
        first = view(ask=tall(T, 7))
        self.assert_views([first, view("x", tall(("view", "w"), 7))], True)
        self.assert_views([first, view("x", tall(("view", "w"), 8))], False)
        self.assert_views([first, view("x", tall(("view", "w"), 7)), view("y", ("both", ("view", "w"), ("view", "x")))], True)

    def test_two_pairs_and_three(self):
        two = paired("k", paired("m"))
        self.assert_views([view(ask=paired("k"))], True)
        self.assert_views([view(ask=two)], True)
        self.assert_views([view(ask=("pairs", U, two))], False)

    def test_the_pairs_of_views_count_as_often_as_they_stand_there(self):
        one, two = view("w", paired("k")), view("w", paired("k", paired("m")))
        self.assert_views([one, view("x", ("both", ("view", "w"), ("view", "w")))], True)
        self.assert_views([two, view("x", ("both", ("view", "w"), ("view", "w")))], False)
        self.assert_views([two, view("x", ("view", "w"))], True)
        self.assert_views([two, view("x", ("pairs", ("view", "w"), ("rows", "v")))], False)
        self.assert_views([one, view("x", ("pairs", ("view", "w"), ("rows", "v")))], True)
        thrice = ("both", ("view", "w"), ("less", ("view", "w"), ("view", "w")))
        self.assert_views([one, view("x", thrice)], False)
        self.assert_views([view("w", ("rows", "t")), view("x", thrice)], True)
        # Through a view of views: x has the pairs of w, once or twice.
        once = view("x", ("seal", ("view", "w")))
        twice = view("x", ("both", ("view", "w"), ("view", "w")))
        self.assert_views([one, once, view("y", ("both", ("view", "x"), ("view", "w")))], True)
        self.assert_views([one, twice, view("y", ("view", "x"))], True)
        self.assert_views([one, twice, view("y", ("both", ("view", "x"), ("view", "w")))], False)
        self.assert_views([one, once, view("y", ("both", ("view", "x"), ("view", "x"))), view("z", ("view", "y"))], True)

    def test_four_and_five(self):
        views = [view(name) for name in ["z", "y", "b", "a", "k"]]
        self.assert_views(views[:4], True)
        self.assert_views(views, False)

    def test_names_unlike(self):
        self.assert_views([view("w"), view("w", U)], False)
        self.assert_views([view("w"), view("x"), view("w", ("view", "w"))], False)
        self.assert_views([view("w"), view("w")], False)
        self.assert_views([view("w"), view("x")], True)

    def test_counts_of_parts(self):
        whole = view()
        for at in range(4):
            self.assert_views([whole[:at]], False)
            self.assert_views([whole[:at] + whole[at + 1:]], False)
        self.assert_views([whole + ((),)], False)
        self.assert_views([list(whole)], False)

    def test_a_list_of_tuples(self):
        self.assert_views((), False)
        self.assert_views((view(),), False)
        self.assert_views(view(), False)
        self.assert_views(None, False)
        self.assert_views([view(), None], False)

    def test_anything(self):
        for thing in anything():
            self.assert_views([thing], False)
            for at in range(4):
                if (at != 3 or thing not in USERS_AMONG) and (at, thing) != (0, "a"):
                    self.assert_views([view()[:at] + (thing,) + view()[at + 1:]], False)
            if thing != []:
                self.assert_views(thing, False)

    def test_much_within_one_another(self):
        self.assert_views([view(ask=nested(lambda thing: ("both", thing, thing), 39))], False)
        self.assert_views([view(ask=("where", T, nested(lambda thing: ("and", thing, thing), 37)))], False)
        self.assert_rules([rule(condition=nested(lambda thing: ("or", thing, thing), 38))], False)


class SettingsTest(Telling):
    def test_the_least(self):
        self.assert_setting((GROUND, [], []), True)
        self.assert_setting(((("t", 0, (("a", 1, False),)),), [], []), True)

    def test_the_same_list_twice(self):
        nothing = []
        self.assert_setting((GROUND, nothing, nothing), True)

    def test_grounds(self):
        for ground in [(), None, GROUND[::-1], list(GROUND), GROUND[0], "t", ((),), (("t", 0, ()),)]:
            self.assert_setting((ground, [], []), False)

    def test_rules_and_views_are_over_this_ground(self):
        other = (("s", 1, (("a", 2, False),)),)
        self.assert_setting((other, [rule()], []), False)
        self.assert_setting((other, [], [view()]), False)
        self.assert_setting((other, [rule(table="s")], [view(ask=("rows", "s"))]), True)

    def test_all_of_it(self):
        rules, views = [rule(), rule("drop", "must", "u", (1, 2), ("mine", "d"))], [view(), view("x", ("view", "w"), "asker")]
        self.assert_setting((GROUND, rules, views), True)
        self.assert_setting((GROUND, views, rules), False)
        self.assert_setting((rules, GROUND, views), False)
        self.assert_setting([GROUND, rules, views], False)
        self.assert_setting((GROUND, rules), False)
        self.assert_setting((GROUND, rules, views, []), False)
        self.assert_setting((list(GROUND), rules, views), False)
        self.assert_setting((GROUND, tuple(rules), views), False)
        self.assert_setting((GROUND, rules, tuple(views)), False)

    def test_anything(self):
        for thing in anything():
            self.assert_setting(thing, False)
            self.assert_setting((thing, [], []), False)
            self.assert_setting((thing,) * 3, False)
            self.assert_setting((GROUND, thing, thing), thing == [])


if __name__ == "__main__":
    unittest.main()
