"""Points 10 and 12: which world a user sees."""

import itertools
import unittest

from rowveil.settings import is_setting, seen_world
from tests.things import GROUND, WORLD

YES = ("yes",)
NO = ("not", YES)
ALL_T, ALL_U, ALL_V = WORLD


def let(table, condition=YES, users=(), verb="read"):
    return (verb, "let", table, users, condition)


def must(table, condition=YES, users=(), verb="read"):
    return (verb, "must", table, users, condition)


class SeenTest(unittest.TestCase):
    def seen(self, rules, user=0, world=WORLD, views=()):
        setting = (GROUND, list(rules), list(views))
        self.assertIs(is_setting(setting), True)
        return seen_world(setting, world, user)

    def assert_t(self, rules, expected, user=0):
        """What is seen of the table t; of the others nothing."""
        with self.subTest(rules=rules, user=user):
            told = self.seen(rules, user)
            self.assertEqual(told, (tuple(expected), (), ()))
            self.assertIsInstance(told[0], tuple)


class LetAndMustTest(SeenTest):
    def test_no_rules(self):
        for user in range(9):
            self.assertEqual(self.seen([], user), ((), (), ()))

    def test_one_let(self):
        self.assert_t([let("t")], ALL_T)
        self.assert_t([let("t", NO)], ())
        self.assert_t([let("t", ("is", "a", 5))], [(5, 1, 1)])

    def test_several_lets(self):
        self.assert_t([let("t", ("is", "a", 5)), let("t", ("is", "a", 1))], [(1, 0, 0), (5, 1, 1)])
        self.assert_t([let("t", ("is", "a", 5)), let("t", ("below", "a", 6))], ALL_T[:4])
        self.assert_t([let("t", NO), let("t")], ALL_T)

    def test_each_table_alone(self):
        told = self.seen([let("t", ("is", "a", 0)), let("v", ("empty", "e"))])
        self.assertEqual(told, (((0, -1, 2),), (), ((-1, 0), (-1, 1))))
        self.assertEqual(self.seen([let("t"), let("u"), let("v")]), WORLD)

    def test_musts_alone(self):
        self.assert_t([must("t")], ())
        self.assert_t([must("t"), must("t", ("is", "a", 1))], ())

    def test_musts_beside_lets(self):
        self.assert_t([let("t"), must("t", ("is", "b", 1))], [(2, 1, -1), (5, 1, 1)])
        self.assert_t([let("t"), must("t", ("is", "b", 1)), must("t", ("is", "c", 1))], [(5, 1, 1)])
        self.assert_t([let("t"), must("t", NO)], ())
        self.assert_t([let("t", ("is", "a", 5)), let("t", ("is", "a", 1)), must("t", ("is", "b", 1))], [(5, 1, 1)])

    def test_must_tells_true_or_bars(self):
        # Of the row whose b is empty neither the one nor its not tells True.
        self.assert_t([let("t"), must("t", ("below", "b", 2))], [(1, 0, 0), (2, 1, -1), (5, 1, 1)])
        self.assert_t([let("t"), must("t", ("not", ("below", "b", 2)))], [(8, 3, 2)])

    def test_let_tells_true_or_does_not_let(self):
        self.assert_t([let("t", ("is", "b", 1))], [(2, 1, -1), (5, 1, 1)])
        self.assert_t([let("t", ("not", ("is", "b", 1)))], [(1, 0, 0), (8, 3, 2)])

    def test_a_let_that_tells_nothing_bars_no_other_let(self):
        nothing = ("is", "b", 1)
        self.assert_t([let("t", nothing), let("t", ("empty", "b"))], [(0, -1, 2), (2, 1, -1), (5, 1, 1)])
        # The same the other way round by their order.
        self.assert_t([let("t", ("below", "b", 1)), let("t", ("is", "a", 0))], [(0, -1, 2), (1, 0, 0)])


class UsersTest(SeenTest):
    def test_for_all(self):
        for user in range(9):
            self.assert_t([let("t")], ALL_T, user)

    def test_for_some(self):
        for user in range(9):
            self.assert_t([let("t", YES, (1, 4, 8))], ALL_T if user in (1, 4, 8) else (), user)

    def test_musts_for_some(self):
        for user in range(9):
            expected = [(5, 1, 1)] if user in (0, 3) else ALL_T
            self.assert_t([let("t"), must("t", ("is", "a", 5), (0, 3))], expected, user)

    def test_lets_for_several(self):
        rules = [let("t", ("is", "a", 0), (0, 1)), let("t", ("is", "a", 1), (1, 2)), let("t", ("is", "a", 2))]
        self.assert_t(rules, [ALL_T[0], ALL_T[2]], 0)
        self.assert_t(rules, ALL_T[:3], 1)
        self.assert_t(rules, ALL_T[1:3], 2)
        self.assert_t(rules, ALL_T[2:3], 3)

    def test_mine(self):
        for user in range(9):
            self.assert_t([let("t", ("mine", "a"))], [row for row in ALL_T if row[0] == user], user)
            self.assert_t([let("t", ("not", ("mine", "b")))], [row for row in ALL_T if row[1] not in (-1, user)], user)
            self.assert_t([let("t"), must("t", ("mine", "a"))], [row for row in ALL_T if row[0] == user], user)


class HasTest(SeenTest):
    def test_has_looks_at_all_rows(self):
        # Nothing is seen of u, but the rule looks at it.
        self.assert_t([let("t", ("has", "u", "a", "a", YES))], ALL_T[:3])
        self.assert_t([let("t"), must("t", ("has", "u", "a", "a", ("is", "d", 2)))], [(0, -1, 2)])

    def test_has_looks_at_rows_that_are_not_seen_of_the_same_table(self):
        rules = [let("t", ("and", ("is", "a", 2), ("has", "t", "b", "b", ("is", "a", 5))))]
        self.assert_t(rules, [(2, 1, -1)])

    def test_rules_that_look_at_one_another(self):
        told = self.seen([
            let("t", ("not", ("has", "u", "a", "a", YES))), let("u", ("not", ("has", "t", "a", "a", YES))),
        ])
        self.assertEqual(told, (((5, 1, 1), (8, 3, 2)), (), ()))

    def test_an_empty_value_has_no_row(self):
        self.assert_t([let("t", ("has", "v", "b", "e", YES))], [(1, 0, 0)])
        self.assert_t([let("t", ("not", ("has", "v", "b", "e", YES)))], [row for row in ALL_T if row[1] != 0])

    def test_mine_within_has(self):
        rules = [let("t", ("has", "u", "a", "a", ("mine", "d")))]
        self.assert_t(rules, [(0, -1, 2), (1, 0, 0)], 0)
        self.assert_t(rules, [(2, 1, -1)], 1)
        self.assert_t(rules, [(0, -1, 2)], 2)
        self.assert_t(rules, [], 3)


class OthersTest(SeenTest):
    def test_rules_of_other_verbs(self):
        for verb in ["put", "drop"]:
            self.assert_t([let("t", YES, (), verb)], ())
            self.assert_t([let("t", ("is", "a", 1)), let("t", YES, (), verb)], [(1, 0, 0)])
            self.assert_t([let("t"), must("t", NO, (), verb)], ALL_T)

    def test_rules_of_other_tables(self):
        self.assert_t([let("t"), must("u", NO), must("v", NO)], ALL_T)
        self.assertEqual(self.seen([let("u"), must("t", YES)])[0], ())

    def test_views_make_no_difference(self):
        views = [("w", ("rows", "t"), "own", ()), ("x", ("rows", "u"), "asker", ())]
        self.assertEqual(self.seen([let("u", ("is", "d", 1))], views=views), ((), ((2, 1),), ()))

    def test_the_empty_world(self):
        self.assertEqual(self.seen([let("t"), let("u"), let("v")], world=((), (), ())), ((), (), ()))

    def test_the_order_of_the_rules_makes_no_difference(self):
        rules = [
            let("t", ("is", "b", 1)), let("t", ("empty", "b")), must("t", ("not", ("is", "a", 5))),
            must("t", ("below", "a", 3)), let("u", ("mine", "a")),
        ]
        expected = (((0, -1, 2), (2, 1, -1)), ((1, 0),), ())
        for order in itertools.permutations(rules):
            self.assertEqual(self.seen(order, 1), expected)


if __name__ == "__main__":
    unittest.main()
