"""Point 2: nothing that is handed in is changed, every told list is the asker's own, arguments go by their places."""

import copy
import inspect
import unittest

from rowveil.asks import plain_answer, plain_head, plain_heard
from rowveil.conditions import is_condition, tells
from rowveil.errors import NoAsk
from rowveil.grounds import all_worlds, count_worlds, is_ground, is_world
from tests.things import GROUND, WORLD, anything

SMALL = (("t", 1, (("a", 2, False), ("b", 2, True))),)
CONDITION = ("and", ("not", ("is", "a", 1)), ("has", "u", "b", "a", ("loud", "d")))
ASKS = [
    ("rows", "t"), ("where", ("rows", "t"), CONDITION), ("keep", ("rows", "t"), ("c", "a")),
    ("named", ("rows", "t"), ("x", "y", "z")), ("pairs", ("rows", "u"), ("rows", "v")),
    ("both", ("rows", "u"), ("rows", "u")), ("less", ("rows", "u"), ("where", ("rows", "u"), ("is", "a", 0))),
    ("count", ("rows", "t"), "n"), ("seal", ("rows", "t")), ("seal", ("seal", ("named", ("rows", "v"), ("a", "b")))),
]


class HandedInTest(unittest.TestCase):
    def test_what_is_handed_in_reads_as_ahead(self):
        ground, world, condition = copy.deepcopy((GROUND, WORLD, CONDITION))
        is_ground(ground)
        is_world(ground, world)
        count_worlds(ground)
        is_condition(ground, ("a", "b"), condition)
        tells(ground, world, ("a", "b"), (0, 1), condition)
        for ask in ASKS:
            handed = copy.deepcopy(ask)
            plain_head(ground, handed)
            plain_answer(ground, world, handed)
            plain_heard(ground, world, handed)
            self.assertEqual(handed, ask)
        self.assertEqual((ground, world, condition), (GROUND, WORLD, CONDITION))

    def test_wrong_things_read_as_ahead(self):
        for thing, ahead in zip(anything(), anything()):
            with self.subTest(ahead):
                is_ground(thing)
                is_world(GROUND, thing)
                is_condition(GROUND, ("a",), thing)
                for refused in [lambda: plain_head(GROUND, thing), lambda: plain_answer(GROUND, WORLD, thing)]:
                    with self.assertRaises(NoAsk):
                        refused()
                self.assertEqual(thing, ahead)

    def test_told_rows_may_be_changed(self):
        for ask in ASKS:
            with self.subTest(ask):
                first = plain_answer(GROUND, WORLD, ask)
                kept = copy.deepcopy(first)
                second = plain_answer(GROUND, WORLD, ask)
                first[1].append("more")
                first[1][0] = None
                self.assertEqual(second, kept)
                self.assertEqual(plain_answer(GROUND, WORLD, ask), kept)

    def test_told_worlds_may_be_changed(self):
        first = all_worlds(SMALL)
        kept = list(first)
        first.clear()
        self.assertEqual(all_worlds(SMALL), kept)
        self.assertEqual(all_worlds(SMALL, most=8), kept)

    def test_told_hearings_may_be_changed(self):
        first = plain_heard(GROUND, WORLD, ASKS[1])
        kept = list(first)
        self.assertEqual(kept, [("d", 0)])
        first.append(("d", 1))
        self.assertEqual(plain_heard(GROUND, WORLD, ASKS[1]), kept)

    def test_the_same_asked_of_another_world_between(self):
        kept = plain_answer(GROUND, WORLD, ASKS[1])
        self.assertEqual(plain_answer(GROUND, ((), (), ()), ASKS[1])[1], [])
        self.assertEqual(plain_answer(GROUND, WORLD, ASKS[1]), kept)
        self.assertNotEqual(kept[1], [])


class InterfaceTest(unittest.TestCase):
    def test_arguments(self):
        for function, listed in [
            (is_ground, "(thing)"),
            (is_world, "(ground, thing)"),
            (all_worlds, "(ground, *, most=8)"),
            (count_worlds, "(ground)"),
            (is_condition, "(ground, columns, thing)"),
            (tells, "(ground, world, columns, row, condition, *, user=0)"),
            (plain_head, "(ground, thing)"),
            (plain_answer, "(ground, world, thing)"),
            (plain_heard, "(ground, world, thing)"),
        ]:
            with self.subTest(listed):
                self.assertEqual(str(inspect.signature(function)), listed)

    def test_those_behind_a_star_go_by_their_names_only(self):
        with self.assertRaises(TypeError):
            all_worlds(SMALL, 8)
        with self.assertRaises(TypeError):
            tells(GROUND, WORLD, ("a",), (0,), ("yes",), 0)


if __name__ == "__main__":
    unittest.main()
