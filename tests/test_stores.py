"""Point 23: stores, their rules, views and rows, and what users do to them."""

import inspect

from rowveil import errors
from rowveil.asked import answer
from rowveil.errors import (
    Full, InUse, NoAsk, NoCondition, NoGround, NoRight, NoRow, NoRule, NoTable, NotLet, NotThere, NoUser, NoView, Taken,
    TooMany, Twice,
)
from rowveil.grounds import is_ground
from rowveil.stores import Store
from rowveil.writing import drop_rows, put_row, turn_rows
from tests.store_things import GROUND, NO, T, U, WIDE, YES, StoreTestCase, filled, rule, things_but, view
from tests.things import anything

NO_USERS = things_but(0, 1, 7) + [9, 10, (0,), [0], "0"]
NO_TABLES = anything() + ["t ", "T", "rows t", ("t",), ["t"], GROUND[0], "v"]
TEN = [rule(condition=("is", "b", value)) for value in range(10)]


class GroundTest(StoreTestCase):
    def test_grounds(self):
        for ground in [GROUND, WIDE, GROUND[:1], tuple((name, 0, (("a", 1, False),)) for name in "abcd")]:
            store = Store(ground)
            self.assertEqual(store.all_rules(), [])
            self.assertEqual(store.all_views(), [])
            self.assertEqual(store.all_rows(), tuple(() for table in ground))
            self.assertEqual(len(store), 0)

    def test_no_grounds(self):
        wrong = [list(GROUND), GROUND[::-1], GROUND + GROUND, (list(GROUND[0]),), (("t", True, GROUND[0][2]),)]
        for thing in anything() + wrong:
            with self.subTest(thing), self.assertRaises(NoGround):
                Store(thing)
            self.assertIs(is_ground(thing), False)


class RulesTest(StoreTestCase):
    def test_put(self):
        store = Store(GROUND)
        put = [rule(), rule("put", "u", ("is", "c", 1), (0, 3), "must"), rule("drop", condition=("mine", "a"))]
        for one in put:
            self.assertIsNone(store.put_rule(one))
        self.assertEqual(store.all_rules(), sorted(put))

    def test_rules_are_told_rising(self):
        for rules in [TEN[:4], TEN[3::-1], [TEN[2], TEN[0], TEN[3], TEN[1]]]:
            store = Store(GROUND)
            for one in rules:
                store.put_rule(one)
            self.assertEqual(store.all_rules(), TEN[:4])

    def test_no_rules(self):
        store = filled(GROUND, t=[(0, 0)])
        store.put_rule(rule())
        for thing in anything() + [
            list(rule()), rule()[:4], rule() + (0,), rule("ask"), rule(table="v"), rule(condition=("loud", "a")),
            rule(condition=("is", "c", 1)), rule(users=[0]), rule(users=(True,)), rule(users=(1, 0)), rule(users=(9,)),
            rule(condition=["yes"]), rule(condition=("is", "a", True)), rule(kind="may"), [rule()], (rule(),), T, view(),
        ]:
            with self.subTest(thing):
                self.assert_refused(NoRule, store, lambda: store.put_rule(thing))

    def test_twice(self):
        store = Store(GROUND)
        for one in TEN[:3]:
            store.put_rule(one)
        for one in TEN[:3]:
            self.assert_refused(Twice, store, lambda: store.put_rule(one))

    def test_too_many(self):
        store = Store(GROUND)
        for one in TEN:
            store.put_rule(one)
        self.assertEqual(store.all_rules(), TEN)
        self.assert_refused(TooMany, store, lambda: store.put_rule(rule()))
        # NoRule goes ahead of Twice, and this ahead of TooMany.
        self.assert_refused(Twice, store, lambda: store.put_rule(TEN[4]))
        self.assert_refused(NoRule, store, lambda: store.put_rule(rule(condition=("is", "b", 10))))
        store.strike_rule(TEN[4])
        store.put_rule(rule())
        self.assertEqual(len(store.all_rules()), 10)

    def test_strike(self):
        store = Store(GROUND)
        for one in TEN[:3]:
            store.put_rule(one)
        self.assertIsNone(store.strike_rule(TEN[1]))
        self.assertEqual(store.all_rules(), [TEN[0], TEN[2]])
        self.assert_refused(NotThere, store, lambda: store.strike_rule(TEN[1]))
        store.put_rule(TEN[1])
        self.assertEqual(store.all_rules(), TEN[:3])

    def test_strike_of_what_is_not_there(self):
        store = Store(GROUND)
        store.put_rule(rule(users=(0, 1), condition=("is", "a", 1)))
        for thing in anything() + [
            rule(), rule(users=(False, True), condition=("is", "a", 1)), rule(users=(0, 1), condition=("is", "a", True)),
            rule(users=[0, 1], condition=("is", "a", 1)), list(rule()), rule(users=(0, 1), condition=["is", "a", 1]),
        ]:
            with self.subTest(thing):
                self.assert_refused(NotThere, store, lambda: store.strike_rule(thing))


class ViewsTest(StoreTestCase):
    def test_put(self):
        store = Store(GROUND)
        put = [view("z"), view("b", ("count", ("view", "z"), "n"), "asker", (1,)), view("a", U, "own", (0, 8))]
        for one in put:
            self.assertIsNone(store.put_view(one))
        self.assertEqual(store.all_views(), put)

    def test_no_views(self):
        store = Store(GROUND)
        store.put_view(view("w"))
        pairs = ("pairs", ("pairs", ("count", T, "x"), ("count", T, "y")), ("count", T, "z"))
        for thing in anything() + [
            list(view()), view()[:3], view() + (0,), view("Big"), view("rows"), view("x", ("view", "x")), T, [view()],
            view("x", ("view", "y")), view("x", T, "both"), view("x", users=(2, 1)), view("x", users=[1]), rule(),
            view("x", ("where", T, ("loud", "a"))), view("x", ["rows", "t"]), view("x", ("pairs", pairs, U)), view(("w",)),
        ]:
            with self.subTest(thing):
                self.assert_refused(NoView, store, lambda: store.put_view(thing))
        store.put_view(view("x", pairs))
        self.assert_refused(NoView, store, lambda: store.put_view(view("y", ("pairs", ("view", "x"), U))))
        store.put_view(view("y", ("both", ("view", "w"), ("where", ("view", "w"), ("mine", "a")))))

    def test_twice(self):
        store = Store(GROUND)
        store.put_view(view("w"))
        self.assert_refused(Twice, store, lambda: store.put_view(view("w")))
        self.assert_refused(Twice, store, lambda: store.put_view(view("w", U, "asker", (1,))))
        self.assert_refused(Twice, store, lambda: store.put_view(view("w", ("view", "w"))))

    def test_too_many(self):
        store = Store(GROUND)
        for name in "wxyz":
            store.put_view(view(name))
        self.assert_refused(TooMany, store, lambda: store.put_view(view("v")))
        self.assert_refused(Twice, store, lambda: store.put_view(view("y")))
        self.assert_refused(NoView, store, lambda: store.put_view(view("y", ("view", "v"))))
        store.take_view("x")
        store.put_view(view("v"))
        self.assertEqual([one[0] for one in store.all_views()], ["w", "y", "z", "v"])

    def test_take(self):
        store = Store(GROUND)
        for name in "wxy":
            store.put_view(view(name))
        self.assertIsNone(store.take_view("x"))
        self.assertEqual(store.all_views(), [view("w"), view("y")])
        self.assert_refused(NotThere, store, lambda: store.take_view("x"))
        store.put_view(view("x"))
        self.assertEqual(store.all_views(), [view("w"), view("y"), view("x")])

    def test_take_of_what_is_not_there(self):
        store = Store(GROUND)
        store.put_view(view("w"))
        for thing in anything() + ["v", "t", "w ", "W", ("w",), ["w"], view("w")]:
            with self.subTest(thing):
                self.assert_refused(NotThere, store, lambda: store.take_view(thing))

    def test_in_use(self):
        within = ("less", ("seal", ("rows", "t")), ("where", ("keep", ("view", "w"), ("a", "b")), YES))
        for ask in [("view", "w"), ("count", ("view", "w"), "n"), ("both", T, ("view", "w")), within]:
            with self.subTest(ask):
                store = Store(GROUND)
                store.put_view(view("w"))
                store.put_view(view("x", ask, "asker", (8,)))
                self.assert_refused(InUse, store, lambda: store.take_view("w"))
                store.take_view("x")
                store.take_view("w")
                self.assertEqual(store.all_views(), [])

    def test_in_use_is_of_the_name_alone(self):
        store = Store(GROUND)
        store.put_view(view("a"))
        store.put_view(view("x", ("keep", ("where", T, ("is", "a", 1)), ("a",))))
        store.put_view(view("y", ("view", "x")))
        store.take_view("a")
        self.assert_refused(InUse, store, lambda: store.take_view("x"))


class FillTest(StoreTestCase):
    def test_fill_whatever_the_rules_are(self):
        store = Store(GROUND)
        store.put_rule(rule("put", condition=NO))
        for row in [(3, -1), (0, 2), (1, 0)]:
            self.assertIsNone(store.fill("t", row))
        store.fill("u", (1,))
        store.fill("u", (0,))
        self.assertEqual(store.all_rows(), (((0, 2), (1, 0), (3, -1)), ((0,), (1,))))

    def test_clear(self):
        store = filled(GROUND, t=[(0, 0), (1, 1)], u=[(1,)])
        self.assertIsNone(store.clear_row("t", (0, 0)))
        self.assertEqual(store.all_rows(), (((1, 1),), ((1,),)))
        store.clear_row("u", (1,))
        self.assertEqual(store.all_rows(), (((1, 1),), ()))
        self.assert_refused(NotThere, store, lambda: store.clear_row("u", (1,)))

    def test_no_table(self):
        store = filled(GROUND, t=[(0, 0)])
        for thing in NO_TABLES:
            with self.subTest(thing):
                for row in [(0, 0), None, ("no", "row")]:
                    self.assert_refused(NoTable, store, lambda: store.fill(thing, row))
                    self.assert_refused(NoTable, store, lambda: store.clear_row(thing, row))

    def test_no_row(self):
        store = filled(GROUND, t=[(0, 1), (1, 0)])
        for thing in things_but((0, 0)) + [
            (0,), (0, 0, 0), (4, 0), (0, 3), (-1, 0), (0, -2), (False, 1), (0, True), [0, 1], ("0", 1), ((0, 1),), (0, None),
        ]:
            with self.subTest(thing):
                self.assert_refused(NoRow, store, lambda: store.fill("t", thing))
                self.assert_refused(NotThere, store, lambda: store.clear_row("t", thing))

    def test_not_there(self):
        store = filled(GROUND, t=[(0, 1)], u=[(1,)])
        for row in [(0, 0), (0, -1), (1, 1)]:
            self.assert_refused(NotThere, store, lambda: store.clear_row("t", row))
        self.assert_refused(NotThere, store, lambda: store.clear_row("u", (True,)))

    def test_taken(self):
        store = filled(GROUND, t=[(0, 1)], u=[(1,)])
        for row in [(0, 1), (0, 0), (0, -1)]:
            self.assert_refused(Taken, store, lambda: store.fill("t", row))
        self.assert_refused(Taken, store, lambda: store.fill("u", (1,)))

    def test_full(self):
        store = filled(WIDE, t=[(value, 0) for value in range(9)] + [(0, value) for value in (1, 2, 3)])
        self.assertEqual(len(store), 12)
        self.assert_refused(Full, store, lambda: store.fill("t", (8, 8)))
        self.assert_refused(Taken, store, lambda: store.fill("t", (0, 3)))
        self.assert_refused(NoRow, store, lambda: store.fill("t", (0, 9)))
        store.clear_row("t", (0, 3))
        store.fill("t", (8, 8))
        self.assertEqual(len(store), 12)


class UserDeedsTest(StoreTestCase):
    def test_no_user_goes_ahead_of_all_else(self):
        store = filled(GROUND, t=[(0, 0)])
        for thing in NO_USERS:
            with self.subTest(thing):
                for call in [
                    lambda: store.put(thing, "t", (1, 1)), lambda: store.put(thing, "none", None),
                    lambda: store.drop(thing, "t", YES), lambda: store.drop(thing, None, None),
                    lambda: store.turn(thing, "t", YES, "b", 1), lambda: store.turn(thing, None, None, "b", None),
                    lambda: store.ask(thing, T), lambda: store.ask(thing, None), lambda: store.ask(thing, ("view", "w")),
                ]:
                    self.assert_refused(NoUser, store, call)

    def test_no_table(self):
        store = filled(GROUND, t=[(0, 0)])
        for thing in NO_TABLES:
            with self.subTest(thing):
                for call in [
                    lambda: store.put(0, thing, (1, 1)), lambda: store.put(0, thing, None),
                    lambda: store.drop(0, thing, YES), lambda: store.drop(0, thing, None),
                    lambda: store.turn(0, thing, YES, "b", 1), lambda: store.turn(0, thing, None, "b", None),
                ]:
                    self.assert_refused(NoTable, store, call)

    def test_put(self):
        store = filled(GROUND, t=[(2, 0)])
        store.put_rule(rule("put", condition=("mine", "a")))
        store.put_rule(rule("put", "u", YES, (1,)))
        self.assertIsNone(store.put(1, "t", (1, -1)))
        self.assertIsNone(store.put(1, "u", (0,)))
        self.assertEqual(store.all_rows(), (((1, -1), (2, 0)), ((0,),)))
        self.assert_refused(NotLet, store, lambda: store.put(0, "u", (0,)))
        self.assert_refused(NotLet, store, lambda: store.put(3, "t", (1, 0)))
        self.assert_refused(Taken, store, lambda: store.put(1, "t", (1, 0)))
        self.assert_refused(Taken, store, lambda: store.put(2, "t", (2, 1)))
        self.assert_refused(Taken, store, lambda: store.put(1, "u", (0,)))

    def test_put_of_no_row(self):
        store = filled(GROUND, t=[(0, 0)])
        for thing in things_but((0, 0)) + [(0,), (True, 0), [0, 0], (0, 3), (9, 0)]:
            with self.subTest(thing):
                # NotLet would be due, too.
                self.assert_refused(NoRow, store, lambda: store.put(0, "t", thing))

    def test_put_into_a_full_table(self):
        store = filled(WIDE, t=[(value, 0) for value in range(9)] + [(0, value) for value in (1, 2, 3)])
        store.put_rule(rule("put", condition=("not", ("is", "a", 7))))
        self.assert_refused(Full, store, lambda: store.put(0, "t", (8, 8)))
        self.assert_refused(Taken, store, lambda: store.put(0, "t", (8, 0)))
        self.assert_refused(NotLet, store, lambda: store.put(0, "t", (7, 0)))

    def test_drop(self):
        store = filled(GROUND, t=[(0, 0), (1, 1), (2, 2), (3, -1)])
        store.put_rule(rule(condition=("not", ("is", "a", 0))))
        store.put_rule(rule("drop", condition=("not", ("is", "a", 1)), users=(0, 1)))
        self.assertEqual(store.drop(2, "t", YES), 0)
        self.assertEqual(store.drop(0, "t", NO), 0)
        self.assertEqual(store.drop(0, "t", ("is", "b", 2)), 1)
        self.assertEqual(store.all_rows()[0], ((0, 0), (1, 1), (3, -1)))
        self.assertEqual(store.drop(1, "t", ("loud", "a")), 1)
        self.assertEqual(store.all_rows()[0], ((0, 0), (1, 1)))

    def test_drop_of_several(self):
        store = filled(GROUND, t=[(0, 0), (1, 1), (2, 2), (3, -1)], u=[(0,), (1,)])
        for one in [rule(), rule("drop"), rule(table="u", condition=("is", "c", 1))]:
            store.put_rule(one)
        # has is of what the user sees.
        self.assertEqual(store.drop(0, "t", ("has", "u", "b", "c", YES)), 1)
        self.assertEqual(store.drop(0, "t", YES), 3)
        self.assertEqual(store.all_rows(), ((), ((0,), (1,))))
        self.assertIs(type(store.drop(0, "t", YES)), int)

    def test_turn(self):
        store = filled(GROUND, t=[(0, 0), (1, 1), (2, 2), (3, -1)])
        store.put_rule(rule(condition=("not", ("is", "a", 0))))
        store.put_rule(rule("drop"))
        self.assertEqual(store.turn(0, "t", NO, "b", 1), 0)
        self.assert_refused(NotLet, store, lambda: store.turn(0, "t", YES, "b", 1))
        store.put_rule(rule("put", condition=("not", ("empty", "b"))))
        # The row (1, 1) has the value, and is counted; the row 0 is not seen.
        self.assertEqual(store.turn(0, "t", YES, "b", 1), 3)
        self.assertEqual(store.all_rows()[0], ((0, 0), (1, 1), (2, 1), (3, 1)))
        self.assertEqual(store.turn(0, "t", YES, "b", 1), 3)
        self.assert_refused(NotLet, store, lambda: store.turn(0, "t", ("is", "a", 2), "b", -1))
        self.assert_refused(Taken, store, lambda: store.turn(0, "t", ("is", "a", 2), "a", 0))
        self.assert_refused(Taken, store, lambda: store.turn(0, "t", YES, "a", 2))
        self.assertEqual(store.turn(0, "t", ("is", "a", 2), "a", 2), 1)

    def test_turn_where_the_key_is_0(self):
        store = filled(GROUND, u=[(0,), (1,)])
        for verb in ["read", "put", "drop"]:
            store.put_rule(rule(verb, "u"))
        self.assertEqual(store.turn(0, "u", YES, "c", 1), 2)
        self.assertEqual(store.all_rows(), ((), ((1,),)))

    def test_no_condition_and_no_value(self):
        store = filled(GROUND, t=[(0, 0)])
        store.put_rule(rule())
        store.put_rule(rule("drop"))
        for thing in anything() + [("is", "c", 1), ("is", "a", True), ["yes"], "a = 1", ("mine", "x"), ("is", "a", 10)]:
            with self.subTest(thing):
                self.assert_refused(NoCondition, store, lambda: store.drop(0, "t", thing))
                self.assert_refused(NoCondition, store, lambda: store.turn(0, "t", thing, "b", 1))
                self.assert_refused(NoCondition, store, lambda: store.turn(0, "t", thing, "b", thing))
        for thing in things_but(0, 1, -1) + [3, -2, (1,), [1], "1"]:
            with self.subTest(thing):
                # NotLet would be due, too.
                self.assert_refused(NoRow, store, lambda: store.turn(0, "t", YES, "b", thing))
        self.assert_refused(NoRow, store, lambda: store.turn(0, "t", YES, "a", -1))

    def test_as_the_functions_tell(self):
        store = filled(GROUND, t=[(0, 0), (1, 1), (3, -1)], u=[(0,)])
        rules = [rule(verb, table) for verb in ["read", "put", "drop"] for table in "tu"]
        for one in rules:
            store.put_rule(one)
        setting = (GROUND, rules, [])
        for call, change in [
            (lambda: store.put(4, "t", (2, 2)), lambda world: put_row(setting, world, 4, "t", (2, 2))),
            (lambda: store.turn(4, "t", ("empty", "b"), "b", 0),
             lambda world: turn_rows(setting, world, 4, "t", ("empty", "b"), "b", 0)),
            (lambda: store.drop(4, "t", ("is", "b", 0)), lambda world: drop_rows(setting, world, 4, "t", ("is", "b", 0))),
        ]:
            expected = change(store.all_rows())
            call()
            self.assertEqual(store.all_rows(), expected)


class AskTest(StoreTestCase):
    def test_asks(self):
        store = filled(GROUND, t=[(0, 0), (1, 1)], u=[(1,)])
        store.put_rule(rule(condition=("mine", "a")))
        store.put_view(view("w", ("count", T, "n"), "own", (1, 2)))
        store.put_view(view("x", ("count", T, "n"), "asker"))
        setting = (GROUND, store.all_rules(), store.all_views())
        for user, ask, rows in [
            (0, T, [(0, 0)]), (1, T, [(1, 1)]), (2, T, []), (0, U, []), (1, ("view", "w"), [(2,)]),
            (2, ("view", "x"), [(0,)]), (1, ("where", T, ("loud", "a")), [(1, 1)]),
        ]:
            told = store.ask(user, ask)
            self.assertEqual(told[1], rows)
            self.assertEqual(told, answer(setting, store.all_rows(), user, ask))

    def test_no_ask_and_no_right(self):
        store = filled(GROUND, t=[(0, 0)])
        store.put_view(view("w", T, "own", (1,)))
        store.put_view(view("x", ("both", ("view", "w"), ("view", "w")), "asker"))
        for thing in anything() + [("view", "v"), ("where", T, ("is", "a", True)), ("where", ("view", "w"), ("loud", "c"))]:
            with self.subTest(thing):
                self.assert_refused(NoAsk, store, lambda: store.ask(0, thing))
        for ask in [("view", "w"), ("view", "x"), ("both", T, ("view", "w"))]:
            self.assertEqual(self.assert_refused(NoRight, store, lambda: store.ask(0, ask)).name, "w")
        self.assertEqual(store.ask(1, ("view", "x"))[1], [(0, 0)])

    def test_what_is_asked_hangs_on_the_rules_of_now(self):
        store = filled(GROUND, t=[(0, 0), (1, 1)])
        self.assertEqual(store.ask(0, T)[1], [])
        store.put_rule(rule())
        self.assertEqual(store.ask(0, T)[1], [(0, 0), (1, 1)])
        store.clear_row("t", (0, 0))
        self.assertEqual(store.ask(0, T)[1], [(1, 1)])
        store.strike_rule(rule())
        self.assertEqual(store.ask(0, T)[1], [])


class InterfaceTest(StoreTestCase):
    def test_methods(self):
        for name, listed in {
            "put_rule": "(self, rule)", "strike_rule": "(self, rule)", "put_view": "(self, view)",
            "take_view": "(self, name)", "fill": "(self, table, row)", "clear_row": "(self, table, row)",
            "put": "(self, user, table, row)", "drop": "(self, user, table, condition)",
            "turn": "(self, user, table, condition, column, value)", "ask": "(self, user, thing)", "begin": "(self)",
            "roll_back": "(self)", "commit": "(self)", "all_rules": "(self)", "all_views": "(self)", "all_rows": "(self)",
            "open_begins": "(self)", "asks_of": "(self, user)", "could_be": "(self, user)",
            "known": "(self, user, secret)", "run": "(self, deeds)", "notes": "(self)", "runs_open": "(self)",
            "__init__": "(self, ground)", "__len__": "(self)", "__eq__": "(self, other)", "__str__": "(self)",
        }.items():
            with self.subTest(name):
                self.assertIn(name, vars(Store))
                self.assertEqual(str(inspect.signature(vars(Store)[name])), listed)

    def test_refusals_are_those_of_the_package(self):
        for error in [NoGround, NoRule, NoUser, NoTable, InUse]:
            self.assertIs(getattr(errors, error.__name__), error)


if __name__ == "__main__":
    import unittest

    unittest.main()
