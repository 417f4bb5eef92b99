"""Makes grounds, worlds, conditions, asks and settings, the same ones at each run."""

import itertools
import random

LETTERS = "abcdefghijklmnopqrstuvwxyz"
MANY_NAMES = list(LETTERS) + [first + letter for first in "qxz" for letter in LETTERS]
USERS = [(), (), (), (0,), (1,), (0, 1), (2, 5, 7), (0, 2, 3, 8)]


def measured(condition, within=False):
    """How many parts a condition has, and whether a has stands within a has."""
    parts, nested = 1, within and condition[0] == "has"
    for part in condition[1:]:
        if isinstance(part, tuple):
            more, inner = measured(part, within or condition[0] == "has")
            parts, nested = parts + more, nested or inner
    return parts, nested


def asks_in(ask):
    """The ask and all asks within it, from the left."""
    counts = {"rows": 0, "view": 0, "pairs": 2, "both": 2, "less": 2}
    yield ask
    for part in ask[1:1 + counts.get(ask[0], 1)]:
        yield from asks_in(part)


def count_pairs(ask, views):
    """How many pairs an ask has, those of its views counted; views has the ask of each name."""
    many = 0
    for part in asks_in(ask):
        many += part[0] == "pairs"
        if part[0] == "view":
            many += count_pairs(views[part[1]], views)
    return many


class Maker:
    def __init__(self, seed):
        self.chance = random.Random(seed)

    def ground(self):
        tables = []
        for name in sorted(self.chance.sample("rstu", self.chance.randint(1, 3))):
            count = self.chance.randint(1, 3)
            key = self.chance.randint(0, count)
            columns = tuple(
                (column, self.chance.randint(1, 4), at >= key and self.chance.random() < 0.6)
                for at, column in enumerate(self.chance.sample("abcde", count))
            )
            tables.append((name, key, columns))
        return tuple(tables)

    def small_ground(self):
        """Two tables with six possible rows, or fewer, so that all worlds can be gone through."""
        return self.chance.choice([
            (("s", 1, (("a", 2, False),)), ("t", 1, (("a", 2, False), ("b", 2, False)))),
            (("s", 0, (("a", 2, True),)), ("t", 0, (("b", 2, True),))),
            (("s", 1, (("c", 3, False),)), ("t", 1, (("a", 1, False), ("b", 2, True)))),
            (("s", 0, (("a", 2, False), ("b", 2, False))), ("t", 1, (("a", 2, False),))),
        ])

    def world(self, ground):
        return tuple(self.table_rows(table) for table in ground)

    def table_rows(self, table):
        name, key, columns = table
        rows = {}
        for step in range(self.chance.randint(0, 7)):
            row = tuple(self.chance.randint(-1 if may else 0, size - 1) for column, size, may in columns)
            rows[row[:key] if key else row] = row
        return tuple(sorted(rows.values()))

    def condition(self, ground, columns, depth, mine=False):
        pick = self.chance.choice
        leaves = ["is", "below", "same", "empty", "loud", "yes"] + ["mine"] * mine
        word = pick(leaves + ["has", "not", "and", "or"] * 3 * (depth > 0))
        if word == "yes":
            return ("yes",)
        if word in ("is", "below"):
            return (word, pick(columns), self.chance.randint(0, 4))
        if word == "same":
            return (word, pick(columns), pick(columns))
        if word in ("empty", "loud", "mine"):
            return (word, pick(columns))
        if word == "has":
            table = pick(ground)
            there = [column[0] for column in table[2]]
            return (word, table[0], pick(columns), pick(there), self.condition(ground, there, depth - 1, mine))
        parts = [self.condition(ground, columns, depth - 1, mine) for step in range(1 if word == "not" else 2)]
        return (word, *parts)

    def bounded(self, ground, columns, quiet):
        """A condition of point 6, with mine; without loud, where it is to be quiet."""
        while True:
            condition = self.condition(ground, columns, self.chance.randint(0, 3), mine=True)
            parts, nested = measured(condition)
            if parts <= 8 and not nested and not (quiet and "'loud'" in repr(condition)):
                return condition

    def ask(self, ground, depth):
        """An ask with its head, both as slow.py has them; it may have too many pairs."""
        pick = self.chance.choice
        if depth == 0:
            table = pick(ground)
            return ("rows", table[0]), tuple(column[0] for column in table[2])
        word = pick(["where", "where", "keep", "named", "pairs", "both", "less", "count", "seal"])
        ask, head = self.ask(ground, depth - 1)
        if word == "where":
            return (word, ask, self.condition(ground, head, 3)), head
        if word == "keep":
            names = tuple(self.chance.sample(head, self.chance.randint(1, len(head))))
            return (word, ask, names), names
        if word == "named":
            names = tuple(self.chance.sample("abcdefghij", len(head)) if len(head) <= 10 else head)
            return (word, ask, names), names
        if word == "count":
            return (word, ask, "n"), ("n",)
        if word == "seal":
            return (word, ask), head
        if word == "pairs":
            count = ("count", self.ask(ground, depth - 1)[0], "zz")
            return ((word, ask, count) if "zz" not in head else ask), head + ("zz",) * ("zz" not in head)
        return (word, ask, ("where", ask, self.condition(ground, head, 2))), head

    def counted(self, ask):
        """How many pairs an ask has."""
        return count_pairs(ask, {})

    def leaves(self, ground, views, heads):
        """Asks that others are made of, each with its head: of each table, and of each view of these."""
        found = [(("rows", name), tuple(column[0] for column in columns)) for name, key, columns in ground]
        return found + [(("view", view[0]), heads[view[0]]) for view in views] * 2

    def tree(self, ground, leaves, depth, condition):
        """An ask over the leaves with its head, of any form; condition makes one over a head."""
        chance = self.chance
        if depth == 0:
            return chance.choice(leaves)
        word = chance.choice(["where"] * 4 + ["keep", "named", "pairs", "pairs", "both", "less", "count", "seal"])
        ask, head = self.tree(ground, leaves, depth - 1, condition)
        if word == "where":
            return (word, ask, condition(head)), head
        if word == "keep":
            names = tuple(chance.sample(head, chance.randint(1, len(head))))
            return (word, ask, names), names
        if word == "named":
            names = tuple(chance.sample(MANY_NAMES[:max(8, len(head))], len(head)))
            return (word, ask, names), names
        if word == "count":
            return (word, ask, "n"), ("n",)
        if word == "seal":
            return (word, ask), head
        other, other_head = self.tree(ground, leaves, chance.randint(0, depth - 1), condition)
        if word == "pairs":
            if set(head) & set(other_head):
                fresh = [name for name in MANY_NAMES if name not in head]
                other_head = tuple(chance.sample(fresh[:len(other_head) + 4], len(other_head)))
                other = ("named", other, other_head)
            return (word, ask, other), head + other_head
        if len(head) != len(other_head):
            return (word, ask, ("where", ask, condition(head))), head
        return (word, ask, other if other_head == head else ("named", other, head)), head

    def bounded_ask(self, ground, views, heads, quiet):
        """An ask of point 8 with its head."""
        asks = {view[0]: view[1] for view in views}
        leaves = self.leaves(ground, views, heads)
        while True:
            depth = self.chance.randint(0, 4)
            ask, head = self.tree(ground, leaves, depth, lambda names: self.bounded(ground, names, quiet))
            if len(list(asks_in(ask))) <= 8 and count_pairs(ask, asks) <= 2 and len(head) <= 9:
                return ask, head

    def setting(self, ground):
        """A setting, and the heads of its views."""
        chance = self.chance
        rules = []
        for step in range(chance.randint(0, 8)):
            verb = chance.choice(["read", "read", "put", "drop"])
            kind = chance.choice(["let", "let", "must"])
            name, key, columns = chance.choice(ground)
            condition = self.bounded(ground, [column[0] for column in columns], True)
            rule = (verb, kind, name, chance.choice(USERS), condition)
            rules += [rule] * (rule not in rules)
        # Else most users would see nothing at all.
        for name, key, columns in ground:
            rule = ("read", "let", name, (), ("not", ("is", columns[0][0], 0)))
            rules += [rule] * (chance.random() < 0.5 and rule not in rules and len(rules) < 10)
        views, heads = [], {}
        for name in itertools.islice(["w", "x", "y", "z"], chance.randint(0, 4)):
            ask, head = self.bounded_ask(ground, views, heads, True)
            views.append((name, ask, chance.choice(["own", "asker"]), chance.choice(USERS)))
            heads[name] = head
        return (ground, rules, views), heads
