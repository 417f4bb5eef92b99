"""Point 26: runs of deeds, done whole or not at all, and their notes."""

import copy
import unittest

from rowveil import errors
from rowveil.errors import NoDeeds, NoneOpen, NoRow, NoRule, NotLet, NotThere, NoUser, Taken, TooDeep, VeilError
from rowveil.stores import Store
from tests.store_things import GROUND, NO, T, U, YES, StoreTestCase, filled, rule, told_of, view
from tests.things import anything

REFUSED = ("fill", "t", (9, 9))


def within(deeds, depth):
    """Deeds with so many runs around them."""
    for step in range(depth):
        deeds = [("run", deeds)]
    return deeds


def ends(depth):
    """The notes of runs that stand within one another."""
    return [("in", k) for k in range(1, depth + 1)] + [("out", k) for k in range(depth, 0, -1)]


class DoneTest(StoreTestCase):
    def test_what_each_deed_told(self):
        store = filled(GROUND, t=[(0, 0), (1, 1), (2, 2)])
        told = store.run([
            ("put_rule", rule()), ("put_rule", rule("put")), ("put_rule", rule("drop")), ("put_rule", rule(condition=NO)),
            ("strike_rule", rule(condition=NO)), ("put_view", view("w")), ("put_view", view("x", ("view", "w"))),
            ("take_view", "x"), ("fill", "u", (1,)), ("fill", "u", (0,)), ("clear_row", "u", (1,)), ("begin",),
            ("put", 3, "t", (3, -1)), ("drop", 0, "t", ("is", "b", 0)), ("turn", 0, "t", YES, "b", 2), ("begin",),
            ("drop", 0, "t", YES), ("roll_back",), ("commit",), ("run", [("drop", 1, "t", ("is", "a", 3)), ("run", [])]),
        ])
        self.assertEqual(told, [None] * 13 + [1, 3, None, 3, None, None, [1, []]])
        self.assertEqual(store.all_rules(), sorted([rule(), rule("put"), rule("drop")]))
        self.assertEqual(store.all_views(), [view("w")])
        self.assertEqual(store.all_rows(), (((1, 2), (2, 2)), ((0,),)))
        self.assertEqual(store.open_begins(), 0)

    def test_an_empty_run(self):
        store = filled(GROUND, t=[(0, 0)])
        store.ask(0, T)
        ahead = told_of(store)
        self.assertEqual(store.run([]), [])
        self.assertEqual(store.run([("run", []), ("run", [("run", [])])]), [[], [[]]])
        self.assertEqual(told_of(store), ahead)
        self.assertEqual(store.notes(), ends(1) + [("in", 1), ("in", 2), ("out", 2), ("in", 2), ("in", 3), ("out", 3), ("out", 2), ("out", 1)])

    def test_inner_lists(self):
        store = filled(GROUND, t=[(0, 0), (1, 1)])
        store.run([("put_rule", rule()), ("put_rule", rule("drop"))])
        told = store.run([("run", [("drop", 0, "t", ("is", "a", 0)), ("begin",)]), ("drop", 0, "t", YES), ("run", [])])
        self.assertEqual(told, [[1, None], 1, []])

    def test_begins_stay_open(self):
        store = Store(GROUND)
        store.run([("begin",), ("fill", "t", (0, 0)), ("run", [("begin",), ("fill", "t", (1, 1))])])
        self.assertEqual(store.open_begins(), 2)
        store.roll_back()
        self.assertEqual(store.all_rows()[0], ((0, 0),))
        store.run([("roll_back",)])
        self.assertEqual((store.all_rows()[0], store.open_begins()), ((), 0))

    def test_each_deed_is_done_by_what_was_done_ahead(self):
        store = Store(GROUND)
        told = store.run([("fill", "t", (0, 0)), ("clear_row", "t", (0, 0)), ("fill", "t", (0, 1))])
        self.assertEqual((told, store.all_rows()[0]), ([None] * 3, ((0, 1),)))

    def test_asks_are_gone_behind_its_deeds(self):
        store = filled(GROUND, t=[(0, 0)])
        for deeds in [[("fill", "u", (0,))], [("run", [("clear_row", "u", (0,))])], [("drop", 0, "t", YES)]]:
            store.ask(0, T)
            store.run(deeds)
            self.assertEqual(store.asks_of(0), [])


class RefusedTest(StoreTestCase):
    def made(self):
        store = filled(GROUND, t=[(0, 0), (1, 1)])
        for verb in ["read", "put", "drop"]:
            store.put_rule(rule(verb))
        store.put_view(view("w"))
        store.begin()
        store.fill("t", (2, 2))
        store.begin()
        store.fill("u", (0,))
        store.ask(0, T)
        store.ask(1, U)
        return store

    def assert_undone(self, error, deeds, notes):
        store, whole = self.made(), copy.deepcopy(deeds)
        ahead = told_of(store)
        with self.assertRaises(VeilError) as caught:
            store.run(deeds)
        self.assertIs(type(caught.exception), error)
        self.assertEqual(told_of(store), ahead)
        self.assertEqual(store.notes(), notes)
        self.assertEqual(deeds, whole)
        # What was begun ahead can still be rolled back.
        store.roll_back()
        self.assertEqual(store.all_rows(), (((0, 0), (1, 1), (2, 2)), ()))
        store.roll_back()
        self.assertEqual(store.all_rows(), (((0, 0), (1, 1)), ()))

    def test_each_deed_is_undone(self):
        for deed in [
            ("put_rule", rule(condition=NO)), ("strike_rule", rule("put")), ("put_view", view("x")), ("take_view", "w"),
            ("fill", "u", (1,)), ("clear_row", "u", (0,)), ("put", 0, "t", (3, 0)), ("drop", 0, "t", YES),
            ("turn", 0, "t", YES, "b", 0), ("begin",), ("roll_back",), ("commit",), ("run", [("fill", "u", (1,))]), ("run", []),
        ]:
            with self.subTest(deed):
                inner = [("in", 2), ("out", 2)] if deed[0] == "run" else []
                self.assert_undone(NoRow, [deed, REFUSED], [("in", 1), *inner, ("out", 1)])
                self.assert_undone(NoRow, [("run", [deed, REFUSED])], [("in", 1), ("in", 2)] + [
                    (end, k + 1) for end, k in inner
                ] + [("out", 2), ("out", 1)])

    def test_several_are_undone(self):
        deeds = [
            ("roll_back",), ("fill", "t", (3, -1)), ("roll_back",), ("begin",), ("begin",),
            ("put_rule", rule(condition=NO)), ("put_view", view("x", ("view", "w"))), ("drop", 0, "t", YES), ("commit",),
        ]
        self.assert_undone(NoneOpen, [*deeds, ("commit",), ("commit",)], ends(1))
        self.assert_undone(NoUser, [("run", deeds), ("put", 9, "t", (0, 0))], [("in", 1), ("in", 2), ("out", 2), ("out", 1)])

    def test_by_the_same_refusal(self):
        for error, deed in [
            (NoRule, ("put_rule", None)), (errors.Twice, ("put_rule", rule())), (NotThere, ("strike_rule", None)),
            (errors.NoView, ("put_view", [])), (errors.Twice, ("put_view", view("w"))), (NotThere, ("take_view", None)),
            (errors.NoTable, ("fill", None, None)), (Taken, ("fill", "t", (0, 2))), (NotThere, ("clear_row", "t", (0, 2))),
            (NoUser, ("put", None, None, None)), (NotLet, ("put", 0, "u", (1,))), (errors.NoCondition, ("drop", 0, "t", None)),
            (NoRow, ("turn", 0, "t", YES, "b", None)), (NotLet, ("turn", 0, "u", YES, "c", 1)),
        ]:
            with self.subTest(deed):
                if deed[0] == "turn" and deed[2] == "u":
                    deeds = [("put_rule", rule("read", "u")), ("put_rule", rule("drop", "u")), deed]
                else:
                    deeds = [deed]
                self.assert_undone(error, deeds, ends(1))
                self.assert_undone(error, [("begin",), ("run", deeds)], ends(2))

    def test_too_deep_within_a_run(self):
        self.assert_undone(TooDeep, [("begin",)] * 4, ends(1))
        self.assert_undone(TooDeep, [("begin",), ("run", [("begin",), ("run", [("begin",), ("begin",)])])], ends(3))

    def test_deeds_behind_the_refused_one_are_not_done(self):
        self.assert_undone(NoRow, [REFUSED, ("put", None, None, None)], ends(1))
        self.assert_undone(NoRow, [("run", [REFUSED]), ("run", []), ("begin",)], ends(2))

    def test_what_is_run_after_a_refusal(self):
        store = self.made()
        with self.assertRaises(Taken):
            store.run([("fill", "t", (0, 0))])
        self.assertEqual([store.runs_open(), store.run([("fill", "u", (1,))])], [0, [None]])

    def test_other_errors_leave_no_run_under_way(self):
        """What is no column of the table is not promised to be refused; both ends are noted all the same."""
        store = self.made()
        ahead = told_of(store)
        with self.assertRaises(Exception):
            store.run([("fill", "u", (1,)), ("run", [("turn", 0, "t", YES, "none", 0)])])
        self.assertEqual(told_of(store), ahead)
        self.assertEqual(store.notes(), ends(2))


class NoDeedsTest(StoreTestCase):
    def assert_no_deeds(self, thing):
        store = filled(GROUND, t=[(0, 0)])
        store.run([("fill", "u", (0,))])
        store.ask(0, T)
        with self.subTest(thing):
            # Nothing is noted, which assert_refused looks at.
            self.assert_refused(NoDeeds, store, lambda: store.run(thing))

    def test_of_anything(self):
        for thing in anything():
            if thing == []:
                continue
            self.assert_no_deeds(thing)
            self.assert_no_deeds([("begin",), thing])
            self.assert_no_deeds([("begin",), ("run", thing)])
            self.assert_no_deeds([[("begin",)], thing])

    def test_what_is_no_list(self):
        for thing in [(), (("begin",),), ("begin",), "begin", None, {"begin": ()}]:
            self.assert_no_deeds(thing)
            self.assert_no_deeds([("run", thing)])

    def test_what_is_no_deed(self):
        for thing in [
            ["begin"], "begin", (), ("Begin",), ("",), ("ask", 0, T), ("asks_of", 0), ("could_be", 0), ("all_rows",), ("notes",),
            (("begin",),), ("runs",), ("back",), (None,), (0,), (True,), (["begin"],), None, [],
        ]:
            self.assert_no_deeds([thing])
            self.assert_no_deeds([("fill", "u", (1,)), thing])
            self.assert_no_deeds([("run", [("begin",), thing])])

    def test_counts_of_parts(self):
        for word, many in {
            "put_rule": 1, "strike_rule": 1, "put_view": 1, "take_view": 1, "fill": 2, "clear_row": 2, "put": 3, "drop": 3,
            "turn": 5, "begin": 0, "roll_back": 0, "commit": 0, "run": 1,
        }.items():
            for wrong in [many - 1, many + 1, many + 3]:
                if wrong >= 0:
                    self.assert_no_deeds([(word, *[[]] * wrong)])
            store = Store(GROUND)
            try:
                store.run([(word, *[[]] * many)])
            except NoDeeds:
                self.fail(word)
            except VeilError:
                pass

    def test_ahead_of_anything(self):
        self.assert_no_deeds([("fill", "none", None), ("begin", 0)])
        self.assert_no_deeds([("put", 99, None, None), ("run", [("begin",), ("run", [("none",)])])])

    def test_five_and_six_deep(self):
        for deeds in [[], [("fill", "t", (1, 1))]]:
            store = Store(GROUND)
            told = store.run(within(deeds, 4))
            self.assertEqual(told, [[[[[None] * len(deeds)]]]])
            self.assertEqual(store.notes(), ends(5))
            self.assertEqual(len(store), len(deeds))
            self.assert_no_deeds(within(deeds, 5))
            self.assert_no_deeds([("begin",)] + within(deeds, 5))
            self.assert_no_deeds(within(deeds, 6))
            self.assert_no_deeds(within(deeds, 13))

    def test_many_side_by_side(self):
        store = Store(GROUND)
        self.assertEqual(store.run([("run", [])] * 7), [[]] * 7)
        self.assertEqual(store.notes(), [("in", 1)] + [("in", 2), ("out", 2)] * 7 + [("out", 1)])


class NotesTest(StoreTestCase):
    def test_none_at_first(self):
        self.assertEqual(Store(GROUND).notes(), [])

    def test_deeds_alone_are_not_noted(self):
        store = filled(GROUND, t=[(0, 0)])
        store.begin()
        store.roll_back()
        self.assertEqual(store.notes(), [])

    def test_never_undone(self):
        store = Store(GROUND)
        store.begin()
        store.run([("begin",), ("run", [("begin",)])])
        noted = ends(2)
        self.assertEqual(store.notes(), noted)
        for step in range(3):
            store.roll_back()
        self.assertEqual(store.notes(), noted)
        with self.assertRaises(NoneOpen):
            store.run([("begin",), ("roll_back",), ("roll_back",)])
        self.assertEqual(store.notes(), noted + ends(1))
        with self.assertRaises(NoneOpen):
            store.run([("run", [("run", [])]), ("run", [("roll_back",)])])
        self.assertEqual(store.notes(), noted + ends(1) + [
            ("in", 1), ("in", 2), ("in", 3), ("out", 3), ("out", 2), ("in", 2), ("out", 2), ("out", 1),
        ])

    def test_no_run_is_under_way_afterwards(self):
        store = Store(GROUND)
        for deeds in [[], [REFUSED], within([REFUSED], 4), within([("begin",)], 4), [("run", []), REFUSED], None, within([], 5)]:
            try:
                store.run(deeds)
            except VeilError:
                pass
            self.assertEqual(store.runs_open(), 0)
            store.run([])
            self.assertEqual(store.notes()[-2:], ends(1))

    def test_two_stores(self):
        store, other = Store(GROUND), Store(GROUND)
        store.run([("fill", "t", (0, 0))])
        self.assertEqual((other.notes(), len(other)), ([], 0))


if __name__ == "__main__":
    unittest.main()
