"""Point 2: nothing that is handed in is changed, every told list is the asker's own, arguments go by their places."""

import copy
import inspect
import unittest

from rowveil.asked import answer, heard
from rowveil.asks import plain_answer, plain_head, plain_heard
from rowveil.conditions import is_condition, tells
from rowveil.errors import NoAsk, VeilError
from rowveil.grounds import all_worlds, count_worlds, is_ground, is_world
from rowveil.rewriting import put_low, rewritten
from rowveil.settings import is_setting, seen_world
from rowveil.writing import drop_rows, put_row, tried, try_parting, turn_rows
from tests.things import GROUND, WORLD, anything

SMALL = (("t", 1, (("a", 2, False), ("b", 2, True))),)
CONDITION = ("and", ("not", ("is", "a", 1)), ("has", "u", "b", "a", ("loud", "d")))
ASKS = [
    ("rows", "t"), ("where", ("rows", "t"), CONDITION), ("keep", ("rows", "t"), ("c", "a")),
    ("named", ("rows", "t"), ("x", "y", "z")), ("pairs", ("rows", "u"), ("rows", "v")),
    ("both", ("rows", "u"), ("rows", "u")), ("less", ("rows", "u"), ("where", ("rows", "u"), ("is", "a", 0))),
    ("count", ("rows", "t"), "n"), ("seal", ("rows", "t")), ("seal", ("seal", ("named", ("rows", "v"), ("a", "b")))),
]


RULES = [
    ("read", "let", "t", (), ("not", ("mine", "a"))), ("read", "let", "u", (1, 3), ("has", "t", "a", "a", ("yes",))),
    ("read", "must", "t", (), ("below", "a", 8)), ("put", "let", "t", (), ("yes",)), ("drop", "let", "t", (), ("yes",)),
]
VIEWS = [("w", ("where", ("rows", "u"), ("mine", "d")), "own", ()), ("x", ("both", ("view", "w"), ("rows", "u")), "asker", (1, 2))]
SETTING = (GROUND, RULES, VIEWS)
USER_ASKS = ASKS + [
    ("view", "w"), ("view", "x"), ("where", ("view", "x"), ("and", ("loud", "a"), ("loud", "d"))),
    ("less", ("view", "w"), ("seal", ("view", "x"))), ("where", ("rows", "t"), ("mine", "b")),
]


def rebuilt(thing):
    """The same again, of new lists and tuples throughout."""
    if isinstance(thing, list):
        return [rebuilt(part) for part in thing]
    return tuple([rebuilt(part) for part in thing]) if isinstance(thing, tuple) else thing


class HandedInTest(unittest.TestCase):
    def test_what_is_handed_in_reads_as_ahead(self):
        ground, world, condition = copy.deepcopy((GROUND, WORLD, CONDITION))
        is_ground(ground)
        is_world(ground, world)
        count_worlds(ground)
        is_condition(ground, ("a", "b"), condition)
        tells(ground, world, ("a", "b"), (0, 1), condition)
        for ask in ASKS:
            handed = copy.deepcopy(ask)
            plain_head(ground, handed)
            plain_answer(ground, world, handed)
            plain_heard(ground, world, handed)
            self.assertEqual(handed, ask)
        self.assertEqual((ground, world, condition), (GROUND, WORLD, CONDITION))

    def test_wrong_things_read_as_ahead(self):
        for thing, ahead in zip(anything(), anything()):
            with self.subTest(ahead):
                is_ground(thing)
                is_world(GROUND, thing)
                is_condition(GROUND, ("a",), thing)
                for refused in [lambda: plain_head(GROUND, thing), lambda: plain_answer(GROUND, WORLD, thing)]:
                    with self.assertRaises(NoAsk):
                        refused()
                self.assertEqual(thing, ahead)

    def test_told_rows_may_be_changed(self):
        for ask in ASKS:
            with self.subTest(ask):
                first = plain_answer(GROUND, WORLD, ask)
                kept = copy.deepcopy(first)
                second = plain_answer(GROUND, WORLD, ask)
                first[1].append("more")
                first[1][0] = None
                self.assertEqual(second, kept)
                self.assertEqual(plain_answer(GROUND, WORLD, ask), kept)

    def test_told_worlds_may_be_changed(self):
        first = all_worlds(SMALL)
        kept = list(first)
        first.clear()
        self.assertEqual(all_worlds(SMALL), kept)
        self.assertEqual(all_worlds(SMALL, most=8), kept)

    def test_told_hearings_may_be_changed(self):
        first = plain_heard(GROUND, WORLD, ASKS[1])
        kept = list(first)
        self.assertEqual(kept, [("d", 0)])
        first.append(("d", 1))
        self.assertEqual(plain_heard(GROUND, WORLD, ASKS[1]), kept)

    def test_the_same_asked_of_another_world_between(self):
        kept = plain_answer(GROUND, WORLD, ASKS[1])
        self.assertEqual(plain_answer(GROUND, ((), (), ()), ASKS[1])[1], [])
        self.assertEqual(plain_answer(GROUND, WORLD, ASKS[1]), kept)
        self.assertNotEqual(kept[1], [])


class SettingsHandedInTest(unittest.TestCase):
    def calls(self, setting, world, ask):
        """Each function that takes a setting, and put_low, as a call of it."""
        condition = ("and", ("loud", "a"), ("not", ("is", "b", 1)))
        return [
            lambda: is_setting(setting),
            lambda: seen_world(setting, world, 1),
            lambda: answer(setting, world, 1, ask),
            lambda: heard(setting, world, 1, ask),
            lambda: rewritten(setting, 1, ask),
            lambda: put_low(setting[0], rewritten(setting, 1, ask)),
            lambda: put_row(setting, world, 1, "t", (4, -1, 0)),
            lambda: tried(setting, world, 1, "t", (4, -1, 0)),
            lambda: drop_rows(setting, world, 1, "t", condition),
            lambda: turn_rows(setting, world, 1, "t", condition, "c", 2),
        ]

    def test_what_is_handed_in_reads_as_ahead(self):
        self.assertIs(is_setting(SETTING), True)
        for ask in USER_ASKS:
            setting, world, handed = copy.deepcopy((SETTING, WORLD, ask))
            for call in self.calls(setting, world, handed):
                call()
                self.assertEqual((setting, world, handed), (SETTING, WORLD, ask))

    def test_wrong_things_read_as_ahead(self):
        for thing, ahead in zip(anything(), anything()):
            with self.subTest(ahead):
                is_setting(thing)
                is_setting((GROUND, thing, thing))
                is_setting((GROUND, [thing], [thing]))
                for refused in [
                    lambda: answer(SETTING, WORLD, 1, thing), lambda: heard(SETTING, WORLD, 1, thing),
                    lambda: rewritten(SETTING, 1, thing), lambda: put_low(GROUND, thing),
                    lambda: drop_rows(SETTING, WORLD, 1, "t", thing), lambda: put_row(SETTING, WORLD, 1, "u", thing),
                    lambda: turn_rows(SETTING, WORLD, 1, "t", thing, "a", thing),
                ]:
                    with self.assertRaises(VeilError):
                        refused()
                self.assertEqual(thing, ahead)

    def test_told_lists_may_be_changed(self):
        for ask in USER_ASKS:
            with self.subTest(ask):
                first, listened = answer(SETTING, WORLD, 1, ask), heard(SETTING, WORLD, 1, ask)
                kept = copy.deepcopy((first, listened))
                second, again = answer(SETTING, WORLD, 1, ask), heard(SETTING, WORLD, 1, ask)
                first[1].append("more")
                first[1][0] = None
                listened.append("more")
                self.assertEqual((second, again), kept)
                self.assertEqual((answer(SETTING, WORLD, 1, ask), heard(SETTING, WORLD, 1, ask)), kept)

    def test_the_same_question_again(self):
        for ask in USER_ASKS:
            first = [call() for call in self.calls(SETTING, WORLD, ask)]
            for call in self.calls((GROUND, [], VIEWS), ((), (), ()), ask):
                try:
                    call()
                except VeilError:
                    pass
            self.assertEqual([call() for call in self.calls(SETTING, WORLD, ask)], first)

    def test_a_setting_that_is_changed_is_another_setting(self):
        rules = [("read", "let", "t", (), ("yes",))]
        setting = (GROUND, rules, [])
        self.assertEqual(answer(setting, WORLD, 0, ("rows", "t"))[1], list(WORLD[0]))
        rules.clear()
        self.assertEqual(answer(setting, WORLD, 0, ("rows", "t"))[1], [])

    def test_the_same_object_twice(self):
        condition, ask, nothing = ("not", ("is", "a", 1)), ("where", ("rows", "u"), ("loud", "a")), []
        shared = (GROUND, [("read", "let", "t", (), condition), ("read", "let", "u", (), condition)], nothing)
        apart = rebuilt(shared)
        for twice in [("both", ask, ask), ("less", ask, ask), ("less", ("rows", "u"), ("both", ask, ask))]:
            alone = rebuilt(twice)
            self.assertEqual(answer(shared, WORLD, 0, twice), answer(apart, WORLD, 0, alone))
            self.assertEqual(heard(shared, WORLD, 0, twice), heard(apart, WORLD, 0, alone))
            self.assertEqual(rewritten(shared, 0, twice), rewritten(apart, 0, alone))
            low = ("where", twice, ("and", condition, condition))
            self.assertEqual(put_low(GROUND, low), put_low(GROUND, rebuilt(low)))
        self.assertEqual(turn_rows(apart, WORLD, 0, "t", ("and", condition, condition), "b", 1), WORLD)
        self.assertIs(is_setting((GROUND, nothing, nothing)), True)


class InterfaceTest(unittest.TestCase):
    def test_arguments(self):
        for function, listed in [
            (is_ground, "(thing)"),
            (is_world, "(ground, thing)"),
            (all_worlds, "(ground, *, most=8)"),
            (count_worlds, "(ground)"),
            (is_condition, "(ground, columns, thing)"),
            (tells, "(ground, world, columns, row, condition, *, user=0)"),
            (plain_head, "(ground, thing)"),
            (plain_answer, "(ground, world, thing)"),
            (plain_heard, "(ground, world, thing)"),
            (is_setting, "(thing)"),
            (seen_world, "(setting, world, user)"),
            (answer, "(setting, world, user, thing)"),
            (heard, "(setting, world, user, thing)"),
            (rewritten, "(setting, user, thing)"),
            (put_low, "(ground, thing)"),
            (put_row, "(setting, world, user, table, row)"),
            (drop_rows, "(setting, world, user, table, condition)"),
            (turn_rows, "(setting, world, user, table, condition, column, value)"),
            (tried, "(setting, world, user, table, row)"),
            (try_parting, "(setting, user, world, other)"),
        ]:
            with self.subTest(listed):
                self.assertEqual(str(inspect.signature(function)), listed)

    def test_those_behind_a_star_go_by_their_names_only(self):
        with self.assertRaises(TypeError):
            all_worlds(SMALL, 8)
        with self.assertRaises(TypeError):
            tells(GROUND, WORLD, ("a",), (0,), ("yes",), 0)


if __name__ == "__main__":
    unittest.main()
