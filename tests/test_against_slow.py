"""Many asks of many worlds, each held against the plain reading of the document in slow.py."""

import unittest

from rowveil.asks import plain_answer, plain_head, plain_heard
from rowveil.conditions import is_condition, tells
from rowveil.grounds import is_ground, is_world
from tests import slow
from tests.making import Maker, measured


class AgainstSlowTest(unittest.TestCase):
    def test_asks(self):
        compared = 0
        for seed in range(1500):
            maker = Maker(seed)
            ground = maker.ground()
            world = maker.world(ground)
            self.assertIs(is_ground(ground), True)
            self.assertIs(is_world(ground, world), True)
            ask, head = maker.ask(ground, maker.chance.randint(0, 5))
            if maker.counted(ask) > 2:
                continue
            compared += 1
            heard = set()
            expected_head, expected = slow.answered(ground, world, ask, heard)
            with self.subTest(seed=seed, ask=ask):
                self.assertEqual(expected_head, head)
                self.assertEqual(plain_head(ground, ask), head)
                self.assertEqual(plain_answer(ground, world, ask), (head, sorted(expected)))
                self.assertEqual(plain_heard(ground, world, ask), sorted(heard))
        self.assertGreater(compared, 1000)

    def test_conditions(self):
        for seed in range(1500):
            maker = Maker(seed)
            ground = maker.ground()
            world = maker.world(ground)
            columns = ("q", "a", "z")[:maker.chance.randint(1, 3)]
            condition = maker.condition(ground, columns, 3)
            with self.subTest(seed=seed, condition=condition):
                for value in range(-1, 10):
                    row = tuple(maker.chance.randint(-1, 9) if column != "q" else value for column in columns)
                    expected = slow.told(ground, world, columns, row, condition, set())
                    self.assertIs(tells(ground, world, columns, row, condition), expected)
                parts, nested = measured(condition)
                self.assertIs(is_condition(ground, columns, condition), parts <= 8 and not nested)


if __name__ == "__main__":
    unittest.main()
