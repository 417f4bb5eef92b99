"""Point 22: what a put would come to, and which try parts two worlds."""

import copy
import unittest

from rowveil.errors import TooMany
from rowveil.grounds import all_worlds, possible_rows
from rowveil.settings import is_setting
from rowveil.writing import put_row, tried, try_parting
from tests import slow
from tests.making import Maker
from tests.things import GROUND, WORLD

YES = ("yes",)
NO = ("not", YES)
# Six possible rows and two.
SMALL = (("s", 1, (("a", 3, False), ("b", 1, True))), ("t", 0, (("c", 2, False),)))
# Eight possible rows, and nine.
EIGHT = (("t", 0, (("a", 8, False),)),)
NINE = (("s", 0, (("a", 1, False),)), ("t", 0, (("a", 8, False),)))


def let(table, condition=YES, users=(), verb="put"):
    return (verb, "let", table, users, condition)


class TriedTest(unittest.TestCase):
    def assert_tried(self, rules, table, row, expected, user=0, world=WORLD):
        setting = (GROUND, rules, [])
        self.assertIs(is_setting(setting), True)
        with self.subTest(rules=rules, table=table, row=row):
            self.assertEqual(tried(setting, world, user, table, row), expected)

    def test_put(self):
        self.assert_tried([let("t")], "t", (3, 0, 0), "put")
        self.assert_tried([let("v")], "v", (0, 0), "put")
        self.assert_tried([let("t", ("mine", "a"))], "t", (3, 0, 0), "put", 3)

    def test_barred(self):
        self.assert_tried([], "t", (3, 0, 0), "barred")
        self.assert_tried([let("t", YES, (), "read"), let("u")], "t", (3, 0, 0), "barred")
        self.assert_tried([let("t", ("mine", "a"))], "t", (3, 0, 0), "barred", 2)
        self.assert_tried([let("t"), ("put", "must", "t", (), ("empty", "b"))], "t", (3, 0, 0), "barred")
        # Ahead of taken.
        self.assert_tried([], "t", (5, 1, 1), "barred")

    def test_taken(self):
        self.assert_tried([let("t")], "t", (5, 1, 1), "taken")
        self.assert_tried([let("t")], "t", (5, 0, 0), "taken")
        self.assert_tried([let("v")], "v", (2, 0), "taken")
        self.assert_tried([let("v")], "v", (2, 1), "put")

    def test_full(self):
        ground = (("t", 2, (("a", 9, False), ("b", 9, False))),)
        rows = tuple((value // 4, value % 4) for value in range(12))
        setting = (ground, [let("t", ("not", ("is", "a", 7)))], [])
        for many, row, expected in [
            (12, (8, 8), "full"), (12, (0, 0), "taken"), (12, (7, 0), "barred"), (11, (8, 8), "put"), (11, (2, 3), "put"),
        ]:
            self.assertEqual(tried(setting, (rows[:many],), 0, "t", row), expected)

    def test_nothing_is_done(self):
        setting, world = copy.deepcopy(((GROUND, [let("t")], []), WORLD))
        for step in range(2):
            self.assertEqual(tried(setting, world, 0, "t", (3, 0, 0)), "put")
        self.assertEqual((setting, world), ((GROUND, [let("t")], []), WORLD))
        self.assertEqual(tried(setting, put_row(setting, world, 0, "t", (3, 0, 0)), 0, "t", (3, 0, 0)), "taken")


class PartingTest(unittest.TestCase):
    def assert_parting(self, rules, world, other, expected, user=0, ground=SMALL):
        setting = (ground, rules, [])
        self.assertIs(is_setting(setting), True)
        with self.subTest(rules=rules, world=world, other=other):
            self.assertEqual(try_parting(setting, user, world, other), expected)
            self.assertEqual(try_parting(setting, user, other, world), expected)

    def test_worlds_that_tries_part(self):
        self.assert_parting([let("s")], (((1, 0),), ()), ((), ()), ("try", "s", (1, -1)))
        self.assert_parting([let("t")], ((), ((1,),)), ((), ()), ("try", "t", (1,)))
        self.assert_parting([let("t")], ((), ((0,), (1,))), ((), ()), ("try", "t", (0,)))

    def test_worlds_that_none_parts(self):
        self.assert_parting([let("s"), let("t")], (((1, 0),), ()), (((1, -1),), ()), None)
        self.assert_parting([], (((1, 0),), ((0,),)), ((), ()), None)
        self.assert_parting([let("s")], ((), ((0,),)), ((), ()), None)
        for world in all_worlds(SMALL)[::40]:
            self.assert_parting([let("s"), let("t")], world, world, None)

    def test_the_first_by_table_and_row(self):
        rules = [let("t"), let("s")]
        self.assert_parting(rules, (((0, 0), (2, 0)), ((0,),)), (((0, 0),), ()), ("try", "s", (2, -1)))
        self.assert_parting(rules, (((0, -1),), ()), (((1, -1),), ()), ("try", "s", (0, -1)))
        self.assert_parting([let("t"), let("s", ("is", "b", 0))], (((0, -1),), ()), ((), ()), ("try", "s", (0, 0)))

    def test_rules_that_look_at_rows(self):
        rules = [let("s", ("has", "t", "a", "c", YES))]
        self.assert_parting(rules, ((), ((1,),)), ((), ()), ("try", "s", (1, -1)))
        rules = [let("s", ("has", "t", "a", "c", ("mine", "c")))]
        self.assert_parting(rules, ((), ((1,),)), ((), ()), None, 0)
        self.assert_parting(rules, ((), ((1,),)), ((), ()), ("try", "s", (1, -1)), 1)

    def test_the_last_of_eight_rows(self):
        rows = tuple((value,) for value in range(8))
        self.assert_parting([let("t")], (rows,), (rows[:7],), ("try", "t", (7,)), ground=EIGHT)

    def test_too_many(self):
        self.assert_parting([let("t")], ((),), ((),), None, ground=EIGHT)
        for ground in [NINE, GROUND]:
            empty = tuple(() for table in ground)
            with self.assertRaises(TooMany):
                try_parting((ground, [], []), 0, empty, empty)
            with self.assertRaises(TooMany):
                try_parting((ground, [let("t")], []), 0, empty, empty[:-1] + (possible_rows(ground[-1])[:1],))

    def test_against_slow(self):
        found = {}
        for seed in range(25):
            maker = Maker(seed)
            (ground, rules, views), heads = maker.setting(maker.small_ground())
            more = [let(table[0]) for table in ground if let(table[0]) not in rules]
            setting = (ground, (rules + more)[-10:], views)
            worlds = maker.chance.sample(all_worlds(ground), 8)
            for world, other in zip(worlds, worlds[1:]):
                expected = None
                for name, row in [(table[0], row) for table in ground for row in possible_rows(table)]:
                    told = [slow.tried(setting, either, 1, name, row) for either in (world, other)]
                    if told[0] != told[1]:
                        expected = ("try", name, row)
                        break
                self.assertEqual(try_parting(setting, 1, world, other), expected)
                found[expected] = True
        self.assertIn(None, found)
        self.assertGreater(len(found), 5)


if __name__ == "__main__":
    unittest.main()
