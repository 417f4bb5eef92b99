"""Many asks of many worlds, each held against the plain reading of the document in slow.py."""

import random
import unittest

from rowveil.asks import plain_answer, plain_head, plain_heard
from rowveil.conditions import is_condition, tells
from rowveil.grounds import is_ground, is_world
from tests import slow


class Maker:
    """Makes grounds, worlds, conditions and asks, the same ones at each run."""

    def __init__(self, seed):
        self.chance = random.Random(seed)

    def ground(self):
        tables = []
        for name in sorted(self.chance.sample("rstu", self.chance.randint(1, 3))):
            count = self.chance.randint(1, 3)
            key = self.chance.randint(0, count)
            columns = tuple(
                (column, self.chance.randint(1, 4), at >= key and self.chance.random() < 0.6)
                for at, column in enumerate(self.chance.sample("abcde", count))
            )
            tables.append((name, key, columns))
        return tuple(tables)

    def world(self, ground):
        return tuple(self.table_rows(table) for table in ground)

    def table_rows(self, table):
        name, key, columns = table
        rows = {}
        for step in range(self.chance.randint(0, 7)):
            row = tuple(self.chance.randint(-1 if may else 0, size - 1) for column, size, may in columns)
            rows[row[:key] if key else row] = row
        return tuple(sorted(rows.values()))

    def condition(self, ground, columns, depth):
        pick = self.chance.choice
        word = pick(["is", "below", "same", "empty", "loud", "yes"] + ["has", "not", "and", "or"] * 3 * (depth > 0))
        if word == "yes":
            return ("yes",)
        if word in ("is", "below"):
            return (word, pick(columns), self.chance.randint(0, 4))
        if word == "same":
            return (word, pick(columns), pick(columns))
        if word in ("empty", "loud"):
            return (word, pick(columns))
        if word == "has":
            table = pick(ground)
            there = [column[0] for column in table[2]]
            return (word, table[0], pick(columns), pick(there), self.condition(ground, there, depth - 1))
        parts = [self.condition(ground, columns, depth - 1) for step in range(1 if word == "not" else 2)]
        return (word, *parts)

    def ask(self, ground, depth):
        """An ask with its head, both as slow.py has them; it may have too many pairs."""
        pick = self.chance.choice
        if depth == 0:
            table = pick(ground)
            return ("rows", table[0]), tuple(column[0] for column in table[2])
        word = pick(["where", "where", "keep", "named", "pairs", "both", "less", "count", "seal"])
        ask, head = self.ask(ground, depth - 1)
        if word == "where":
            return (word, ask, self.condition(ground, head, 3)), head
        if word == "keep":
            names = tuple(self.chance.sample(head, self.chance.randint(1, len(head))))
            return (word, ask, names), names
        if word == "named":
            names = tuple(self.chance.sample("abcdefghij", len(head)) if len(head) <= 10 else head)
            return (word, ask, names), names
        if word == "count":
            return (word, ask, "n"), ("n",)
        if word == "seal":
            return (word, ask), head
        if word == "pairs":
            count = ("count", self.ask(ground, depth - 1)[0], "zz")
            return ((word, ask, count) if "zz" not in head else ask), head + ("zz",) * ("zz" not in head)
        return (word, ask, ("where", ask, self.condition(ground, head, 2))), head

    def counted(self, ask):
        """How many pairs an ask has."""
        if not isinstance(ask, tuple) or not ask:
            return 0
        return (ask[0] == "pairs") + sum(self.counted(part) for part in ask[1:])


class AgainstSlowTest(unittest.TestCase):
    def test_asks(self):
        compared = 0
        for seed in range(1500):
            maker = Maker(seed)
            ground = maker.ground()
            world = maker.world(ground)
            self.assertIs(is_ground(ground), True)
            self.assertIs(is_world(ground, world), True)
            ask, head = maker.ask(ground, maker.chance.randint(0, 5))
            if maker.counted(ask) > 2:
                continue
            compared += 1
            heard = set()
            expected_head, expected = slow.answered(ground, world, ask, heard)
            with self.subTest(seed=seed, ask=ask):
                self.assertEqual(expected_head, head)
                self.assertEqual(plain_head(ground, ask), head)
                self.assertEqual(plain_answer(ground, world, ask), (head, sorted(expected)))
                self.assertEqual(plain_heard(ground, world, ask), sorted(heard))
        self.assertGreater(compared, 1000)

    def test_conditions(self):
        for seed in range(1500):
            maker = Maker(seed)
            ground = maker.ground()
            world = maker.world(ground)
            columns = ("q", "a", "z")[:maker.chance.randint(1, 3)]
            condition = maker.condition(ground, columns, 3)
            with self.subTest(seed=seed, condition=condition):
                for value in range(-1, 10):
                    row = tuple(maker.chance.randint(-1, 9) if column != "q" else value for column in columns)
                    expected = slow.told(ground, world, columns, row, condition, set())
                    self.assertIs(tells(ground, world, columns, row, condition), expected)
                parts, nested = self.measured(condition, False)
                self.assertIs(is_condition(ground, columns, condition), parts <= 8 and not nested)

    def measured(self, condition, within):
        """How many parts a condition has, and whether a has stands within a has."""
        parts, nested = 1, within and condition[0] == "has"
        for part in condition[1:]:
            if isinstance(part, tuple):
                more, inner = self.measured(part, within or condition[0] == "has")
                parts, nested = parts + more, nested or inner
        return parts, nested


if __name__ == "__main__":
    unittest.main()
