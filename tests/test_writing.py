"""Point 21: rows put, dropped and turned by users."""

import unittest

from rowveil.errors import Full, NoCondition, NoRow, NotLet, Taken
from rowveil.grounds import is_world
from rowveil.settings import is_setting
from rowveil.writing import drop_rows, put_row, turn_rows
from tests.things import GROUND, WORLD, anything, nested

YES = ("yes",)
NO = ("not", YES)
ALL_T, ALL_U, ALL_V = WORLD
EMPTY = ((), (), ())


def let(verb, table, condition=YES, users=()):
    return (verb, "let", table, users, condition)


def must(verb, table, condition, users=()):
    return (verb, "must", table, users, condition)


def all_rules(table):
    return [let("read", table), let("put", table), let("drop", table)]


class Writing(unittest.TestCase):
    def setting(self, rules):
        setting = (GROUND, list(rules), [])
        self.assertIs(is_setting(setting), True)
        return setting

    def assert_refused(self, refusal, call):
        with self.assertRaises(refusal) as caught:
            call()
        self.assertIs(caught.exception.__class__, refusal)

    def assert_world(self, told, expected):
        self.assertEqual(told, expected)
        self.assertIs(is_world(GROUND, told), True)

    def put(self, rules, table, row, user=0, world=WORLD):
        return put_row(self.setting(rules), world, user, table, row)

    def drop(self, rules, table, condition, user=0, world=WORLD):
        return drop_rows(self.setting(rules), world, user, table, condition)

    def turn(self, rules, table, condition, column, value, user=0, world=WORLD):
        return turn_rows(self.setting(rules), world, user, table, condition, column, value)


class PutTest(Writing):
    def test_a_row_at_its_place(self):
        rules = [let("put", "t"), let("put", "v")]
        self.assert_world(self.put(rules, "t", (3, -1, 0)), (ALL_T[:3] + ((3, -1, 0),) + ALL_T[3:], ALL_U, ALL_V))
        self.assert_world(self.put(rules, "t", (7, 3, 2)), (ALL_T[:4] + ((7, 3, 2),) + ALL_T[4:], ALL_U, ALL_V))
        self.assert_world(self.put(rules, "v", (2, 1)), (ALL_T, ALL_U, ALL_V + ((2, 1),)))
        self.assert_world(self.put(rules, "t", (0, 0, 0), world=EMPTY), (((0, 0, 0),), (), ()))

    def test_no_row(self):
        rules = [let("put", "t")]
        for row in [
            (9, 0, 0), (-1, 0, 0), (3, 4, 0), (3, -2, 0), (3, 0, 3), (3, 0), (3,), (), (3, 0, 0, 0), [3, 0, 0], (3, 0, True),
            (3, False, 0), (True, 0, 0), (3, 0, None), (3, 0, "0"), (3, 0, (0,)), ((3, 0, 0),), "300", None, 3,
        ]:
            with self.subTest(row):
                self.assert_refused(NoRow, lambda: self.put(rules, "t", row))
        # Of v it is a row, of t it is none.
        self.assert_refused(NoRow, lambda: self.put(rules, "t", (0, 0)))

    def test_no_row_of_anything(self):
        for thing in anything():
            if thing != (1, 2, 3):
                with self.subTest(thing):
                    self.assert_refused(NoRow, lambda: self.put([let("put", "t")], "t", thing))

    def test_not_let(self):
        row = (3, 1, 1)
        for rules in [
            [], [let("read", "t"), let("drop", "t")], [let("put", "u")], [let("put", "t", NO)], [let("put", "t", YES, (1,))],
            [must("put", "t", YES)], [let("put", "t"), must("put", "t", NO)], [let("put", "t", ("is", "a", 2))],
            [let("put", "t"), must("put", "t", ("is", "b", 1)), must("put", "t", ("is", "c", 2))],
        ]:
            with self.subTest(rules):
                self.assert_refused(NotLet, lambda: self.put(rules, "t", row))

    def test_let(self):
        row = (3, 1, 1)
        for rules in [
            [let("put", "t")], [let("put", "t", ("is", "a", 3))], [let("put", "t", NO), let("put", "t", YES, (0, 5))],
            [let("put", "t"), must("put", "t", ("is", "b", 1)), must("put", "t", NO, (1,))],
            [let("put", "t"), must("read", "t", NO), must("drop", "t", NO), must("put", "u", NO)],
        ]:
            with self.subTest(rules):
                self.assertIn(row, self.put(rules, "t", row)[0])

    def test_a_rule_that_tells_nothing_does_not_let(self):
        rules = [let("put", "t", ("below", "b", 9))]
        self.assertIn((3, 0, 0), self.put(rules, "t", (3, 0, 0))[0])
        self.assert_refused(NotLet, lambda: self.put(rules, "t", (3, -1, 0)))
        rules = [let("put", "t"), must("put", "t", ("not", ("is", "b", 3)))]
        self.assert_refused(NotLet, lambda: self.put(rules, "t", (3, -1, 0)))

    def test_mine(self):
        rules = [let("put", "t", ("mine", "a"))]
        self.assertIn((3, 0, 0), self.put(rules, "t", (3, 0, 0), 3)[0])
        self.assert_refused(NotLet, lambda: self.put(rules, "t", (3, 0, 0), 4))

    def test_has_looks_at_all_rows_as_the_world_is_ahead(self):
        rules = [let("put", "t", ("has", "u", "b", "d", YES))]
        self.assertIn((3, 2, 0), self.put(rules, "t", (3, 2, 0))[0])
        self.assert_refused(NotLet, lambda: self.put(rules, "t", (3, 3, 0)))
        # The row itself is not there yet.
        rules = [let("put", "t", ("has", "t", "a", "a", YES))]
        self.assert_refused(NotLet, lambda: self.put(rules, "t", (3, 0, 0)))
        self.assertIn((3, 0, 0), self.put([let("put", "t", ("not", rules[0][4]))], "t", (3, 0, 0))[0])

    def test_taken_by_the_key(self):
        rules = [let("put", "t"), let("put", "u")]
        self.assert_refused(Taken, lambda: self.put(rules, "t", (5, 1, 1)))
        self.assert_refused(Taken, lambda: self.put(rules, "t", (5, 0, 0)))
        self.assert_refused(Taken, lambda: self.put(rules, "u", (0, 2)))
        self.assertIn((0, 1), self.put(rules, "u", (0, 1))[1])

    def test_taken_where_the_key_is_0(self):
        rules = [let("put", "v")]
        self.assert_refused(Taken, lambda: self.put(rules, "v", (-1, 1)))
        self.assertIn((0, 0), self.put(rules, "v", (0, 0))[2])

    def test_taken_by_a_row_that_is_not_seen(self):
        for reads in [[], [let("read", "t", ("is", "a", 0))], [let("read", "t")]]:
            self.assert_refused(Taken, lambda: self.put(reads + [let("put", "t")], "t", (8, 0, 0)))

    def test_eleven_rows_and_twelve(self):
        ground = (("t", 2, (("a", 9, False), ("b", 9, False))),)
        rows = tuple((value // 4, value % 4) for value in range(12))
        setting = (ground, [let("put", "t")], [])
        told = put_row(setting, (rows[:11],), 0, "t", (8, 8))
        self.assertEqual(told, (rows[:11] + ((8, 8),),))
        self.assertIs(is_world(ground, told), True)
        self.assert_refused(Full, lambda: put_row(setting, (rows,), 0, "t", (8, 8)))
        # NoRow, NotLet and Taken go ahead of it.
        self.assert_refused(Taken, lambda: put_row(setting, (rows,), 0, "t", (0, 0)))
        self.assert_refused(NotLet, lambda: put_row((ground, [], []), (rows,), 0, "t", (8, 8)))
        self.assert_refused(NoRow, lambda: put_row(setting, (rows,), 0, "t", (9, 8)))

    def test_the_order_of_the_refusals(self):
        self.assert_refused(NoRow, lambda: self.put([], "t", (9, 0, 0)))
        self.assert_refused(NotLet, lambda: self.put([], "t", (5, 1, 1)))
        self.assert_refused(Taken, lambda: self.put([let("put", "t")], "t", (5, 1, 1)))


class MeantTest(Writing):
    """Conditions of drops and turns."""

    def calls(self, thing):
        return [
            lambda: self.drop(all_rules("t"), "t", thing),
            lambda: self.turn(all_rules("t"), "t", thing, "a", 0),
            lambda: self.turn(all_rules("t"), "t", thing, "a", "no value"),
            lambda: self.turn([], "t", thing, "a", 0),
        ]

    def test_no_condition(self):
        chain = YES
        for step in range(8):
            chain = ("not", chain)
        for thing in [
            *anything(), ("is", "d", 0), ("loud", "d"), ("mine", "e"), ("is", "a", 10), ("is", "a", True), ["yes"], ("yes", "a"), chain,
            ("has", "u", "a", "a", ("has", "u", "a", "a", YES)), ("has", "s", "a", "a", YES), ("has", "u", "a", "b", YES),
            nested(lambda part: ("and", part, part), 39), ("rows", "t"),
        ]:
            for call in self.calls(thing):
                with self.subTest(thing):
                    self.assert_refused(NoCondition, call)

    def test_of_the_table_that_is_named(self):
        condition = ("is", "d", 0)
        self.assertEqual(self.drop(all_rules("u"), "u", condition)[1], ((0, 2), (2, 1)))
        self.assert_refused(NoCondition, lambda: self.drop(all_rules("t"), "t", condition))


class DropTest(Writing):
    def test_dropped(self):
        self.assert_world(self.drop(all_rules("t"), "t", ("is", "b", 1)), (ALL_T[:2] + ALL_T[4:], ALL_U, ALL_V))
        self.assert_world(self.drop(all_rules("t"), "t", YES), ((), ALL_U, ALL_V))
        self.assert_world(self.drop(all_rules("t"), "t", NO), WORLD)
        self.assert_world(self.drop(all_rules("t"), "t", YES, world=EMPTY), EMPTY)

    def test_of_which_true_is_told(self):
        self.assertEqual(self.drop(all_rules("t"), "t", ("not", ("is", "b", 1)))[0], (ALL_T[0], ALL_T[2], ALL_T[3]))
        self.assertEqual(self.drop(all_rules("t"), "t", ("empty", "b"))[0], ALL_T[1:])

    def test_that_are_seen(self):
        rules = [let("read", "t", ("below", "a", 2)), let("drop", "t")]
        self.assertEqual(self.drop(rules, "t", YES)[0], ALL_T[2:])
        self.assertEqual(self.drop([let("drop", "t")], "t", YES), WORLD)
        self.assertEqual(self.drop([let("drop", "t"), let("read", "t", YES, (1,))], "t", YES), WORLD)

    def test_that_may_be_dropped(self):
        rules = [let("read", "t"), let("drop", "t", ("below", "a", 2))]
        self.assertEqual(self.drop(rules, "t", YES)[0], ALL_T[2:])
        self.assertEqual(self.drop(rules + [must("drop", "t", ("is", "a", 1))], "t", YES)[0], ALL_T[:1] + ALL_T[2:])
        self.assertEqual(self.drop([let("read", "t"), let("put", "t")], "t", YES), WORLD)
        self.assertEqual(self.drop([let("read", "t"), must("drop", "t", YES)], "t", YES), WORLD)

    def test_seen_and_may_be_dropped_and_true(self):
        rules = [let("read", "t", ("below", "a", 6)), let("drop", "t", ("not", ("below", "a", 1)))]
        self.assertEqual(self.drop(rules, "t", ("is", "b", 1))[0], (ALL_T[0], ALL_T[1], ALL_T[4]))

    def test_mine(self):
        rules = [let("read", "t"), let("drop", "t", ("not", ("mine", "b")))]
        self.assertEqual(self.drop(rules, "t", YES, 1)[0], ALL_T[:1] + ALL_T[2:4])
        self.assertEqual(self.drop(all_rules("t"), "t", ("mine", "a"), 5)[0], ALL_T[:3] + ALL_T[4:])

    def test_has_of_the_condition_is_of_what_is_seen(self):
        has = ("has", "u", "a", "a", YES)
        self.assertEqual(self.drop(all_rules("t"), "t", has), WORLD)
        self.assertEqual(self.drop(all_rules("t") + [let("read", "u", ("is", "a", 1))], "t", has)[0], ALL_T[:1] + ALL_T[2:])
        self.assertEqual(self.drop(all_rules("t"), "t", ("not", has))[0], ())
        # Of the table itself, too.
        rules = [let("read", "t", ("is", "c", 1)), let("drop", "t")]
        other = ("has", "t", "b", "b", ("not", ("is", "a", 5)))
        self.assertEqual(self.drop(rules, "t", other), WORLD)
        self.assertEqual(self.drop(all_rules("t"), "t", other)[0], ALL_T[:1])

    def test_has_of_the_rules_is_of_all_rows(self):
        rules = [let("read", "t"), let("drop", "t", ("has", "u", "a", "a", ("is", "d", 0)))]
        self.assertEqual(self.drop(rules, "t", YES)[0], ALL_T[2:])
        rules = [let("read", "t", ("has", "u", "a", "a", ("is", "d", 0))), let("drop", "t")]
        self.assertEqual(self.drop(rules, "t", YES)[0], ALL_T[2:])

    def test_loud_tells_true(self):
        self.assertEqual(self.drop(all_rules("t"), "t", ("loud", "a"))[0], ())
        self.assertEqual(self.drop(all_rules("t"), "t", ("and", ("loud", "a"), ("is", "b", 1)))[0], ALL_T[:2] + ALL_T[4:])
        self.assertEqual(self.drop(all_rules("t"), "t", ("not", ("loud", "a"))), WORLD)

    def test_of_one_table(self):
        rules = all_rules("t") + all_rules("u") + all_rules("v")
        self.assert_world(self.drop(rules, "u", YES), (ALL_T, (), ALL_V))
        self.assert_world(self.drop(rules, "v", ("empty", "e")), (ALL_T, ALL_U, ALL_V[2:]))


class TurnTest(Writing):
    def test_turned(self):
        told = self.turn(all_rules("t"), "t", ("is", "b", 1), "c", 2)
        self.assert_world(told, (ALL_T[:2] + ((2, 1, 2), (5, 1, 2)) + ALL_T[4:], ALL_U, ALL_V))
        self.assert_world(self.turn(all_rules("t"), "t", NO, "c", 2), WORLD)
        self.assert_world(self.turn(all_rules("t"), "t", YES, "c", 2, world=EMPTY), EMPTY)

    def test_a_key_is_turned_and_stands_at_its_new_place(self):
        told = self.turn(all_rules("t"), "t", ("is", "a", 0), "a", 6)
        self.assert_world(told, (ALL_T[1:4] + ((6, -1, 2), ALL_T[4]), ALL_U, ALL_V))

    def test_an_empty_value(self):
        told = self.turn(all_rules("t"), "t", ("is", "a", 8), "b", -1)
        self.assert_world(told, (ALL_T[:4] + ((8, -1, 2),), ALL_U, ALL_V))
        told = self.turn(all_rules("t"), "t", ("empty", "b"), "b", 3)
        self.assert_world(told, (((0, 3, 2),) + ALL_T[1:], ALL_U, ALL_V))

    def test_rows_that_are_meant(self):
        rules = [let("read", "t", ("below", "a", 6)), let("drop", "t", ("not", ("below", "a", 1))), let("put", "t")]
        self.assertEqual(self.turn(rules, "t", ("loud", "a"), "b", 2)[0], ALL_T[:1] + ((1, 2, 0), (2, 2, -1), (5, 2, 1)) + ALL_T[4:])
        self.assertEqual(self.turn(rules, "t", ("is", "b", 1), "b", 2)[0], ALL_T[:2] + ((2, 2, -1), (5, 2, 1)) + ALL_T[4:])
        self.assertEqual(self.turn(rules, "t", ("mine", "a"), "b", 2, 5)[0], ALL_T[:3] + ((5, 2, 1),) + ALL_T[4:])

    def test_has_of_the_condition_is_of_what_is_seen(self):
        has = ("has", "u", "a", "a", YES)
        self.assertEqual(self.turn(all_rules("t"), "t", has, "b", 2), WORLD)
        seen = all_rules("t") + [let("read", "u", ("is", "a", 1))]
        self.assertEqual(self.turn(seen, "t", has, "b", 2)[0], ALL_T[:1] + ((1, 2, 0),) + ALL_T[2:])

    def test_no_row(self):
        for column, values in [
            ("a", [-1, 9, 10 ** 29]), ("b", [-2, 4]), ("c", [-2, 3]),
        ]:
            for value in [*values, True, False, None, "0", "", (), (0,), [0], [], (0, 0, 0)]:
                for condition in [YES, NO]:
                    with self.subTest(column=column, value=value):
                        self.assert_refused(NoRow, lambda: self.turn(all_rules("t"), "t", condition, column, value))
        for thing in anything():
            if thing not in [0, 1, 7] or isinstance(thing, bool):
                self.assert_refused(NoRow, lambda: self.turn(all_rules("t"), "t", YES, "a", thing))

    def test_not_let(self):
        reading = [let("read", "t"), let("drop", "t")]
        for rules in [
            [], [let("put", "u")], [let("put", "t", NO)], [let("put", "t", YES, (1,))], [must("put", "t", YES)],
            [let("put", "t"), must("put", "t", ("not", ("is", "a", 5)))], [let("put", "t", ("is", "c", 1))],
        ]:
            with self.subTest(rules):
                self.assert_refused(NotLet, lambda: self.turn(reading + rules, "t", ("is", "b", 1), "c", 2))
        # Where there is no new row, none is barred.
        self.assertEqual(self.turn(reading, "t", NO, "c", 2), WORLD)
        self.assertEqual(self.turn([], "t", YES, "c", 2), WORLD)

    def test_the_new_row_is_what_may_be_put(self):
        rules = [let("read", "t"), let("drop", "t"), let("put", "t", ("is", "c", 2))]
        self.assertEqual(self.turn(rules, "t", ("is", "a", 5), "c", 2)[0], ALL_T[:3] + ((5, 1, 2),) + ALL_T[4:])
        self.assert_refused(NotLet, lambda: self.turn(rules, "t", ("is", "a", 0), "c", 1))

    def test_a_row_that_has_the_value_already_is_one_of_the_new_rows(self):
        rules = [let("read", "t"), let("drop", "t"), let("put", "t", ("not", ("is", "a", 5)))]
        self.assert_refused(NotLet, lambda: self.turn(rules, "t", ("is", "a", 5), "c", 1))
        self.assert_refused(NotLet, lambda: self.turn(rules, "t", ("is", "b", 1), "b", 1))
        self.assertEqual(self.turn(all_rules("t"), "t", ("is", "b", 1), "b", 1), WORLD)

    def test_taken(self):
        two = ("is", "b", 1)
        self.assert_refused(Taken, lambda: self.turn(all_rules("t"), "t", two, "a", 7))
        self.assert_refused(Taken, lambda: self.turn(all_rules("t"), "t", ("is", "a", 5), "a", 8))
        self.assert_refused(Taken, lambda: self.turn(all_rules("u"), "u", ("is", "a", 0), "d", 1))
        self.assert_refused(Taken, lambda: self.turn(all_rules("u"), "u", ("is", "a", 1), "a", 0))
        self.assert_world(self.turn(all_rules("u"), "u", ("is", "a", 1), "d", 2), (ALL_T, ((0, 0), (0, 2), (1, 2), (2, 1)), ALL_V))
        # The row in the way makes room itself: both are turned.
        self.assert_refused(Taken, lambda: self.turn(all_rules("u"), "u", ("below", "a", 2), "a", 1))

    def test_taken_by_alike_rows_where_there_is_a_key(self):
        # All columns of u are its key: the rows (0, 0) and (1, 0) would both be (2, 0).
        self.assert_refused(Taken, lambda: self.turn(all_rules("u"), "u", ("is", "d", 0), "a", 2))
        world = (((0, 1, 1), (1, 1, 1)), (), ())
        self.assert_refused(Taken, lambda: self.turn(all_rules("t"), "t", YES, "a", 5, world=world))

    def test_taken_by_a_row_that_is_not_seen(self):
        rules = [let("read", "t", ("is", "a", 5)), let("drop", "t"), let("put", "t")]
        self.assert_refused(Taken, lambda: self.turn(rules, "t", YES, "a", 8))
        self.assertEqual(self.turn(rules, "t", YES, "a", 7)[0], ALL_T[:3] + ((7, 1, 1),) + ALL_T[4:])

    def test_alike_rows_come_to_one_where_the_key_is_0(self):
        told = self.turn(all_rules("v"), "v", ("empty", "e"), "f", 0)
        self.assert_world(told, (ALL_T, ALL_U, ((-1, 0), (0, 1), (2, 0))))
        told = self.turn(all_rules("v"), "v", YES, "f", 1)
        self.assert_world(told, (ALL_T, ALL_U, ((-1, 1), (0, 1), (2, 1))))
        told = self.turn(all_rules("v"), "v", ("is", "f", 0), "e", 0)
        self.assert_world(told, (ALL_T, ALL_U, ((-1, 1), (0, 0), (0, 1))))
        # With one that is not seen, too.
        rules = [let("read", "v", ("is", "f", 0)), let("drop", "v"), let("put", "v")]
        self.assert_world(self.turn(rules, "v", ("empty", "e"), "f", 1), (ALL_T, ALL_U, ((-1, 1), (0, 1), (2, 0))))

    def test_rules_are_looked_at_as_the_world_is_ahead(self):
        # A new row may be put only beside one with its old value, which is there ahead alone.
        rules = [let("read", "t"), let("drop", "t"), let("put", "t", ("has", "t", "a", "a", ("is", "c", 1)))]
        self.assertEqual(self.turn(rules, "t", ("is", "a", 5), "c", 2)[0], ALL_T[:3] + ((5, 1, 2),) + ALL_T[4:])
        rules = [let("read", "t"), let("drop", "t"), let("put", "t", ("has", "t", "a", "a", ("is", "c", 2)))]
        self.assert_refused(NotLet, lambda: self.turn(rules, "t", ("is", "a", 5), "c", 2))
        # So of several rows none sees another one turned.
        rules = [let("read", "v"), let("drop", "v"), let("put", "v", ("not", ("has", "v", "f", "f", ("is", "e", 2))))]
        self.assertEqual(self.turn(rules, "v", ("is", "f", 1), "e", 2)[2], ((-1, 0), (2, 0), (2, 1)))
        self.assert_refused(NotLet, lambda: self.turn(rules, "v", ("is", "f", 0), "e", 2))

    def test_the_order_of_the_refusals(self):
        reading = [let("read", "t"), let("drop", "t")]
        self.assert_refused(NoCondition, lambda: self.turn(reading, "t", ("is", "d", 0), "a", 9))
        self.assert_refused(NoRow, lambda: self.turn(reading, "t", YES, "a", 9))
        self.assert_refused(NotLet, lambda: self.turn(reading, "t", YES, "a", 8))
        self.assert_refused(Taken, lambda: self.turn(reading + [let("put", "t")], "t", YES, "a", 8))
        # One of the new rows is barred, two others have one key.
        rules = reading + [let("put", "t", ("not", ("is", "b", 3)))]
        self.assert_refused(NotLet, lambda: self.turn(rules, "t", YES, "a", 7))


if __name__ == "__main__":
    unittest.main()
