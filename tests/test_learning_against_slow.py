"""Many small settings, secrets and users, held against the plain reading of points 17 to 20 in slow_learning.py."""

import unittest

from rowveil.asked import answer, heard
from rowveil.asks import plain_answer, plain_heard
from rowveil.errors import NoRight
from rowveil.grounds import all_worlds
from rowveil.learning import base_asks, kept, learns, parting, to_strike
from rowveil.rewriting import put_low, rewritten
from rowveil.settings import is_setting
from tests import slow_learning
from tests.making import Maker


def made(seed, most_lets=10, putting=False):
    """A maker, and a small setting with not too many let rules of the verb read."""
    maker = Maker(seed)
    (ground, rules, views), heads = maker.setting(maker.small_ground())
    lets = [rule for rule in rules if rule[:2] == ("read", "let")]
    rules = [rule for rule in rules if rule not in lets[most_lets:]]
    for table in ground:
        rule = ("put", "let", table[0], (), maker.bounded(ground, [column[0] for column in table[2]], True))
        rules += [rule] * (putting and rule not in rules and len(rules) < 10)
    return maker, (ground, rules, views), heads


def secret_of(maker, ground):
    """A plain ask."""
    while True:
        ask, head = maker.tree(
            ground, maker.leaves(ground, [], {}), maker.chance.randint(0, 2),
            lambda names: maker.condition(ground, names, 2),
        )
        if maker.counted(ask) <= 2:
            return ask


class LearningAgainstSlowTest(unittest.TestCase):
    def test_base_asks_and_parting(self):
        found = {}
        for seed in range(120):
            maker, setting, heads = made(seed)
            self.assertIs(is_setting(setting), True)
            worlds = all_worlds(setting[0])
            for user in [0, 1, 4]:
                self.assertEqual(base_asks(setting, user), slow_learning.base(setting, user))
                for step in range(6):
                    world, other = maker.chance.choice(worlds), maker.chance.choice(worlds)
                    with self.subTest(seed=seed, user=user, world=world, other=other):
                        told = parting(setting, user, world, other)
                        self.assertEqual(told, slow_learning.parting(setting, user, world, other))
                        word = None if told is None else told[0]
                        found[word] = found.get(word, 0) + 1
        self.assertGreater(min(found[word] for word in [None, "rows", "view"]), 20, found)

    def test_parting_of_large_worlds(self):
        for seed in range(120):
            maker = Maker(seed)
            setting, heads = maker.setting(maker.ground())
            for user in [0, 2]:
                world, other = maker.world(setting[0]), maker.world(setting[0])
                self.assertEqual(
                    parting(setting, user, world, other), slow_learning.parting(setting, user, world, other)
                )

    def test_worlds_that_are_alike_answer_and_hear_all_the_same(self):
        compared, loud = 0, 0
        for seed in range(60):
            maker, setting, heads = made(seed)
            worlds = all_worlds(setting[0])
            user, world = maker.chance.randint(0, 2), maker.chance.choice(worlds)
            alike = [other for other in worlds if parting(setting, user, world, other) is None]
            for step in range(12):
                ask, head = maker.bounded_ask(setting[0], setting[2], heads, False)
                try:
                    low = put_low(setting[0], rewritten(setting, user, ask))
                except NoRight:
                    continue
                for other in alike:
                    with self.subTest(seed=seed, ask=ask, other=other):
                        self.assertEqual(answer(setting, other, user, ask), answer(setting, world, user, ask))
                        self.assertEqual(heard(setting, other, user, ask), heard(setting, world, user, ask))
                        self.assertEqual(plain_answer(setting[0], other, low), answer(setting, world, user, ask))
                        told = plain_heard(setting[0], other, low)
                        self.assertEqual(told, plain_heard(setting[0], world, low))
                        compared += other != world
                        loud += other != world and told != []
        self.assertGreater(compared, 1000)
        self.assertGreater(loud, 100)

    def test_learns(self):
        found = {}
        for seed in range(60):
            maker, setting, heads = made(seed, putting=True)
            worlds = all_worlds(setting[0])
            secret, user, world = secret_of(maker, setting[0]), maker.chance.randint(0, 2), maker.chance.choice(worlds)
            for tries in [False, True]:
                with self.subTest(seed=seed, secret=secret, tries=tries):
                    told = learns(setting, user, world, secret, tries=tries)
                    self.assertEqual(told, slow_learning.learns(setting, user, world, secret, tries))
                    found[told[0], tries] = found.get((told[0], tries), 0) + 1
        self.assertGreater(min(found.values()), 5, found)
        self.assertEqual(len(found), 4)

    def test_kept(self):
        found = {}
        for seed in range(90):
            maker, setting, heads = made(seed, putting=True)
            secret, user = secret_of(maker, setting[0]), maker.chance.randint(0, 2)
            for tries in [False, True]:
                with self.subTest(seed=seed, secret=secret, tries=tries):
                    told = kept(setting, user, secret, tries=tries)
                    self.assertEqual(told, slow_learning.kept(setting, user, secret, tries))
                    many = len(told[3]) if told[0] == "leaks" else 0
                    found[many, tries] = found.get((many, tries), 0) + 1
        self.assertGreater(min(found[many, tries] for many in [0, 1] for tries in [False, True]), 10, found)
        self.assertGreater(max(many for many, tries in found), 1, found)

    def test_to_strike(self):
        found = {}
        for seed in range(70):
            maker, setting, heads = made(seed, most_lets=4, putting=True)
            secret, user = secret_of(maker, setting[0]), maker.chance.randint(0, 1)
            tries = seed % 3 == 0
            with self.subTest(seed=seed, secret=secret, tries=tries):
                told = to_strike(setting, user, secret, tries=tries)
                self.assertEqual(told, slow_learning.to_strike(setting, user, secret, tries))
                many = None if told is None else len(told)
                found[many] = found.get(many, 0) + 1
        self.assertGreater(min(found.get(many, 0) for many in [None, 0, 1]), 3, found)


if __name__ == "__main__":
    unittest.main()
