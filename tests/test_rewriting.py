"""Points 3 and 15: asks of users rewritten into plain ones; the worst of them as deep as they may be."""

import itertools
import unittest

from rowveil.asked import answer, heard
from rowveil.asks import plain_answer, plain_head, plain_heard
from rowveil.errors import NoAsk, NoRight
from rowveil.grounds import all_worlds
from rowveil.rewriting import put_low, rewritten
from rowveil.settings import is_setting
from tests.lowness import faults
from tests.things import GROUND, WORLD, anything

YES = ("yes",)
T, U, V = ("rows", "t"), ("rows", "u"), ("rows", "v")
EMPTY = ((), (), ())
WORLDS = [
    WORLD, EMPTY, (WORLD[0], (), ()), ((), WORLD[1], WORLD[2]), (WORLD[0], WORLD[1][1:3], ((-1, 0), (2, 1))),
    (((0, 0, 0), (1, 1, 1), (2, 2, 2), (3, 3, -1)), ((0, 1), (1, 2), (2, 0)), ((0, 0), (1, 1))),
]
RULES = [
    ("read", "let", "t", (), ("mine", "a")), ("read", "let", "t", (), ("has", "u", "a", "a", ("mine", "d"))),
    ("read", "must", "t", (0, 1), ("not", ("is", "c", 0))), ("read", "must", "t", (0, 1), ("or", YES, ("empty", "b"))),
    ("read", "let", "u", (), ("has", "t", "a", "a", ("not", ("empty", "b")))), ("read", "let", "u", (2,), YES),
    ("read", "let", "v", (1,), YES), ("put", "let", "v", (), YES),
]
VIEWS = [
    ("own", ("where", T, ("has", "u", "a", "a", ("not", ("mine", "d")))), "own", ()),
    ("asker", ("less", U, ("where", U, ("mine", "d"))), "asker", ()),
    ("deep", ("both", ("view", "asker"), ("named", V, ("a", "d"))), "own", (0, 1, 2)),
    ("top", ("pairs", ("keep", ("view", "own"), ("b",)), ("both", ("view", "asker"), ("view", "deep"))), "asker", (0, 1, 3)),
]
SETTING = (GROUND, RULES, VIEWS)
HAS = ("has", "u", "a", "a", ("or", ("not", ("loud", "d")), ("mine", "d")))
ASKS = [
    T, U, V, ("view", "own"), ("view", "asker"), ("view", "deep"), ("view", "top"),
    ("where", T, ("mine", "a")), ("where", T, ("loud", "b")), ("where", T, HAS), ("where", T, ("not", HAS)),
    ("where", ("view", "own"), HAS), ("where", ("view", "own"), ("and", ("loud", "a"), ("loud", "b"))),
    ("where", ("view", "asker"), ("loud", "d")), ("where", ("keep", ("view", "deep"), ("d",)), ("loud", "d")),
    ("where", ("less", ("view", "own"), T), ("and", ("loud", "a"), ("has", "u", "b", "d", ("loud", "a")))),
    ("where", ("named", U, ("d", "a")), ("and", ("mine", "a"), ("loud", "d"))),
    ("where", ("pairs", U, V), ("and", ("loud", "e"), ("and", ("same", "a", "e"), ("loud", "d")))),
    ("where", ("view", "top"), ("or", ("mine", "b"), ("loud", "a"))), ("count", ("where", U, ("loud", "a")), "n"),
    ("where", ("count", T, "n"), ("and", ("loud", "n"), ("mine", "n"))), ("seal", ("both", U, ("view", "deep"))),
]


class RewritingTest(unittest.TestCase):
    def answered(self, call):
        """What a call told, or the name of the view that it is refused for."""
        try:
            return call()
        except NoRight as refusal:
            return refusal.name

    def test_the_setting(self):
        self.assertIs(is_setting(SETTING), True)

    def test_answers_and_hears_the_same(self):
        refused = 0
        for ask, user in itertools.product(ASKS, range(5)):
            with self.subTest(ask=ask, user=user):
                plain = self.answered(lambda: rewritten(SETTING, user, ask))
                for world in WORLDS:
                    expected = self.answered(lambda: answer(SETTING, world, user, ask))
                    if isinstance(plain, str):
                        self.assertEqual(plain, expected)
                        refused += 1
                        continue
                    self.assertEqual(plain_head(GROUND, plain), expected[0])
                    self.assertEqual(plain_answer(GROUND, world, plain), expected)
                    self.assertEqual(plain_heard(GROUND, world, plain), heard(SETTING, world, user, ask))
                    low = put_low(GROUND, plain)
                    self.assertEqual(plain_answer(GROUND, world, low), expected)
                    self.assertEqual(faults(GROUND, low), [])
        self.assertGreater(refused, 0)

    def test_no_let_rule(self):
        plain = rewritten((GROUND, [], []), 0, T)
        for world in WORLDS:
            self.assertEqual(plain_answer(GROUND, world, plain), (("a", "b", "c"), []))

    def test_the_order_of_the_rules_makes_no_difference(self):
        for ask in ASKS[:4] + ASKS[7:13]:
            told = {rewritten((GROUND, list(rules), VIEWS), 1, ask) for rules in itertools.permutations(RULES[:5])}
            self.assertEqual(len(told), 1)

    def test_refusals(self):
        for thing in anything():
            with self.subTest(thing), self.assertRaises(NoAsk):
                rewritten(SETTING, 0, thing)
        for thing in [("view", "none"), ("both", ("view", "deep"), T), ("where", ("view", "deep"), ("loud", "x"))]:
            with self.subTest(thing), self.assertRaises(NoAsk):
                rewritten(SETTING, 3, thing)
        for user, ask, name in [
            (3, ("view", "deep"), "deep"), (3, ("view", "top"), "deep"), (2, ("view", "top"), "top"),
            (3, ("less", ("view", "asker"), ("view", "deep")), "deep"),
        ]:
            with self.subTest(ask), self.assertRaises(NoRight) as caught:
                rewritten(SETTING, user, ask)
            self.assertEqual(caught.exception.name, name)


class AlikeTest(unittest.TestCase):
    """Worlds that are alike for a user: what is heard there by asks that are rewritten and put low."""

    GROUND = (("s", 1, (("a", 2, False),)), ("t", 1, (("a", 2, False), ("b", 2, True))))
    S, T, V = ("rows", "s"), ("rows", "t"), ("view", "w")
    # The user 1 sees nothing but what a view shows: nothing else of what this looks at may be heard of.
    RULES = [("read", "let", "s", (0,), YES), ("read", "let", "t", (0,), ("is", "b", 1))]
    SHOWN = [
        ("less", S, ("keep", T, ("a",))),
        ("keep", ("where", T, ("empty", "b")), ("a",)),
        ("keep", ("pairs", ("named", ("keep", T, ("b",)), ("x",)), S), ("a",)),
        ("keep", ("named", ("where", T, ("not", ("empty", "b"))), ("b", "a")), ("a",)),
        ("where", S, ("has", "t", "a", "a", ("is", "b", 1))),
        ("keep", ("where", ("pairs", ("named", S, ("x",)), T), ("same", "x", "b")), ("a",)),
    ]
    ASKS = [V, ("keep", V, ("a",)), ("both", V, S), ("less", V, S), ("less", S, V), ("keep", T, ("a",)), ("less", V, V)]
    CONDITIONS = [
        ("loud", "a"), ("and", ("loud", "a"), ("is", "a", 1)), ("and", ("is", "a", 1), ("loud", "a")),
        ("has", "t", "a", "a", ("loud", "b")), ("not", ("has", "t", "a", "a", ("not", ("loud", "b")))),
    ]

    def grouped(self, setting, user):
        """All worlds, those together that are alike for the user."""
        groups = {}
        for world in all_worlds(self.GROUND):
            known = repr([answer(setting, world, user, ask) for ask in (self.S, self.T, self.V)])
            groups.setdefault(known, []).append(world)
        return list(groups.values())

    def test_alike_worlds_hear_the_same(self):
        several = 0
        for shown, user in itertools.product(self.SHOWN, [0, 1]):
            setting = (self.GROUND, self.RULES, [("w", shown, "own", ())])
            self.assertIs(is_setting(setting), True)
            groups = self.grouped(setting, user)
            self.assertGreater(len(groups), 1)
            for ask, condition in itertools.product(self.ASKS, self.CONDITIONS):
                low = put_low(self.GROUND, rewritten(setting, user, ("where", ask, condition)))
                with self.subTest(shown=shown, user=user, ask=ask, condition=condition):
                    for group in groups:
                        told = [plain_heard(self.GROUND, world, low) for world in group]
                        self.assertEqual(told, told[:1] * len(told))
                        several += len(told) > 1 and told[0] != []
        self.assertGreater(several, 100)


class DeepTest(unittest.TestCase):
    def test_the_most_of_all(self):
        """Wheres of four joined conditions as high as they may be, through views of views, under all rules."""
        four = ("and", ("and", ("below", "a", 9), ("below", "a", 9)), ("and", ("below", "a", 9), ("below", "a", 9)))

        def high(ask):
            for step in range(7):
                ask = ("where", ask, four)
            return ask

        rules = [("read", "let", "t", (), YES)] + [("read", "must", "t", (user,), four) for user in range(9)]
        musts = [("read", "must", "t", (0, user), four) for user in range(1, 9)]
        names = ["w", "x", "y", "z"]
        views = [
            (name, high(("view", names[at - 1]) if at else T), "asker", ()) for at, name in enumerate(names)
        ]
        for setting in [(GROUND, rules, views), (GROUND, rules[:2] + musts, views)]:
            self.assertIs(is_setting(setting), True)
            ask = high(("view", "z"))
            low = put_low(GROUND, rewritten(setting, 0, ask))
            self.assertEqual(faults(GROUND, low), [])
            self.assertEqual(plain_answer(GROUND, WORLD, low), (("a", "b", "c"), list(WORLD[0])))
            self.assertEqual(plain_heard(GROUND, WORLD, low), [])
            self.assertEqual(put_low(GROUND, low), low)


if __name__ == "__main__":
    unittest.main()
