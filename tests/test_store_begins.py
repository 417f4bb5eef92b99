"""Point 24: stores that are begun, rolled back and committed, and what they tell of themselves."""

import unittest

from rowveil.errors import NoneOpen, TooDeep
from rowveil.stores import Store
from tests.store_things import GROUND, NO, SMALL, T, U, YES, StoreTestCase, filled, rule, told_of, view


def state(store):
    return store.all_rules(), store.all_views(), store.all_rows()


class BeginsTest(StoreTestCase):
    def changed(self, store, number):
        """Changes rules, views and rows; tells the state then."""
        store.put_rule(rule(condition=("is", "a", number)))
        store.put_view(view("wxyz"[number]))
        store.fill("t", (number, -1))
        return state(store)

    def test_none_open(self):
        store = filled(GROUND, t=[(0, 0)])
        self.assertEqual(store.open_begins(), 0)
        self.assert_refused(NoneOpen, store, store.roll_back)
        self.assert_refused(NoneOpen, store, store.commit)
        store.begin()
        store.commit()
        self.assert_refused(NoneOpen, store, store.commit)
        store.begin()
        store.roll_back()
        self.assert_refused(NoneOpen, store, store.roll_back)

    def test_deeds_tell_nothing(self):
        store = Store(GROUND)
        self.assertEqual([store.begin(), store.begin(), store.roll_back(), store.commit()], [None] * 4)

    def test_rolled_back(self):
        store = Store(GROUND)
        first = self.changed(store, 0)
        store.begin()
        self.assertEqual(state(store), first)
        self.assertNotEqual(self.changed(store, 1), first)
        store.roll_back()
        self.assertEqual(state(store), first)
        self.assertEqual(store.open_begins(), 0)
        self.assertEqual(store.ask(0, T)[1], [(0, -1)])

    def test_committed(self):
        store = Store(GROUND)
        self.changed(store, 0)
        store.begin()
        second = self.changed(store, 1)
        store.commit()
        self.assertEqual(state(store), second)
        self.assertEqual(store.open_begins(), 0)

    def test_begins_within_begins(self):
        for inner, outer in [("roll_back", "roll_back"), ("commit", "roll_back"), ("roll_back", "commit"), ("commit", "commit")]:
            with self.subTest(inner=inner, outer=outer):
                store = Store(GROUND)
                first = self.changed(store, 0)
                store.begin()
                second = self.changed(store, 1)
                store.begin()
                third = self.changed(store, 2)
                self.assertEqual(store.open_begins(), 2)
                getattr(store, inner)()
                self.assertEqual(store.open_begins(), 1)
                self.assertEqual(state(store), third if inner == "commit" else second)
                ahead = state(store)
                getattr(store, outer)()
                self.assertEqual(store.open_begins(), 0)
                self.assertEqual(state(store), ahead if outer == "commit" else first)

    def test_one_after_another(self):
        store = Store(GROUND)
        store.begin()
        first = self.changed(store, 0)
        store.begin()
        self.changed(store, 1)
        store.roll_back()
        store.begin()
        second = self.changed(store, 2)
        store.commit()
        self.assertEqual((state(store), store.open_begins()), (second, 1))
        self.assertNotEqual(first, second)
        store.roll_back()
        self.assertEqual(state(store), ([], [], ((), ())))

    def test_five_and_six(self):
        store = Store(GROUND)
        for many in range(5):
            self.assertEqual(store.open_begins(), many)
            store.begin()
        self.assertEqual(store.open_begins(), 5)
        self.assert_refused(TooDeep, store, store.begin)
        store.commit()
        self.assertEqual(store.open_begins(), 4)
        store.begin()
        self.assert_refused(TooDeep, store, store.begin)
        for many in range(5):
            store.roll_back()
        self.assert_refused(NoneOpen, store, store.roll_back)

    def test_each_deed_is_rolled_back(self):
        store = filled(GROUND, t=[(0, 0), (1, 1)], u=[(0,)])
        for verb in ["read", "put", "drop"]:
            store.put_rule(rule(verb))
        store.put_view(view("w"))
        ahead = state(store)
        for deed in [
            lambda: store.put_rule(rule(condition=NO)), lambda: store.strike_rule(rule("put")),
            lambda: store.put_view(view("x", ("view", "w"))), lambda: store.take_view("w"),
            lambda: store.fill("u", (1,)), lambda: store.clear_row("t", (0, 0)), lambda: store.put(0, "t", (3, 0)),
            lambda: store.drop(0, "t", YES), lambda: store.turn(0, "t", YES, "b", 2),
        ]:
            store.begin()
            deed()
            self.assertNotEqual(state(store), ahead)
            store.roll_back()
            self.assertEqual(state(store), ahead)

    def test_views_come_back_in_their_order(self):
        store = Store(GROUND)
        for name in "zxy":
            store.put_view(view(name))
        store.begin()
        store.take_view("x")
        store.put_view(view("x"))
        self.assertEqual([one[0] for one in store.all_views()], ["z", "y", "x"])
        store.roll_back()
        self.assertEqual([one[0] for one in store.all_views()], ["z", "x", "y"])

    def test_what_is_refused_belongs_to_no_begin(self):
        store = filled(GROUND, t=[(0, 0)])
        store.begin()
        ahead = told_of(store)
        for step in range(3):
            with self.assertRaises(ValueError):
                store.fill("t", (0, 0))
        self.assertEqual(told_of(store), ahead)
        store.roll_back()
        self.assertEqual(store.all_rows(), (((0, 0),), ()))


class ToldTest(StoreTestCase):
    def test_length(self):
        store = Store(GROUND)
        self.assertEqual(len(store), 0)
        for many, (table, row) in enumerate([("t", (0, 0)), ("u", (1,)), ("t", (2, -1))]):
            store.fill(table, row)
            self.assertEqual(len(store), many + 1)
        store.clear_row("u", (1,))
        self.assertEqual(len(store), 2)

    def test_text(self):
        store = Store(GROUND)
        self.assertEqual(str(store), "2 tables, 0 rules, 0 views, 0 rows")
        for value in range(3):
            store.put_rule(rule(condition=("is", "a", value)))
            store.fill("t", (value, value))
        for value in range(2):
            store.fill("u", (value,))
        store.put_view(view())
        self.assertEqual(str(store), "2 tables, 3 rules, 1 views, 5 rows")
        self.assertEqual(f"{store}", "2 tables, 3 rules, 1 views, 5 rows")
        self.assertEqual(str(Store(GROUND[1:])), "1 tables, 0 rules, 0 views, 0 rows")

    def made(self, ground=GROUND, rules=(0, 1), views="wx", rows=((0, 0), (1, 1))):
        store = filled(ground, t=rows)
        for value in rules:
            store.put_rule(rule(condition=("is", "a", value)))
        for name in views:
            store.put_view(view(name))
        return store

    def test_equal(self):
        self.assertTrue(self.made() == self.made())
        self.assertFalse(self.made() != self.made())
        self.assertTrue(Store(GROUND) == Store(GROUND))
        store = self.made()
        self.assertTrue(store == store)

    def test_the_way_there_makes_no_difference(self):
        self.assertTrue(self.made() == self.made(rules=(1, 0), rows=((1, 1), (0, 0))))
        other = self.made()
        other.ask(0, T)
        other.begin()
        other.run([("fill", "u", (0,)), ("clear_row", "u", (0,))])
        self.assertTrue(self.made() == other)

    def test_not_equal(self):
        wider = (("t", 1, (("a", 4, False), ("b", 4, True))), GROUND[1])
        for other in [
            self.made(ground=wider), self.made(rules=(0,)), self.made(rules=(0, 2)), self.made(views="w"),
            self.made(views="xw"), self.made(rows=((0, 0),)), self.made(rows=((0, 0), (1, 2))), Store(GROUND),
        ]:
            self.assertFalse(self.made() == other)
            self.assertTrue(self.made() != other)

    def test_not_equal_to_what_is_no_store(self):
        store = Store(GROUND)
        for other in [None, 0, "", [], (), GROUND, ((), ()), str(store), (GROUND, [], []), object(), True]:
            self.assertFalse(store == other)
            self.assertTrue(store != other)
        self.assertFalse(Store(SMALL) == Store(GROUND))

    def test_what_is_told_is_of_its_kind(self):
        store = self.made()
        kinds = [type(told) for told in (store.all_rules(), store.all_views(), store.all_rows(), store.open_begins())]
        self.assertEqual(kinds, [list, list, tuple, int])
        self.assertEqual(store.all_views(), [view("w"), view("x")])
        self.assertEqual(store.ask(0, U)[1], [])


if __name__ == "__main__":
    unittest.main()
