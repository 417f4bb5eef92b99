"""Many settings, each asked, rewritten and written, held against the plain reading of the document in slow.py."""

import unittest

from rowveil import errors
from rowveil.asked import answer, heard
from rowveil.asks import plain_answer, plain_head, plain_heard
from rowveil.errors import NoRight, VeilError
from rowveil.grounds import all_worlds, is_world
from rowveil.rewriting import put_low, rewritten
from rowveil.settings import is_setting, seen_world
from rowveil.writing import drop_rows, put_row, tried, turn_rows
from tests import slow
from tests.lowness import faults, seals_in, words_in
from tests.making import Maker

REFUSALS = {"barred": errors.NotLet, "taken": errors.Taken, "full": errors.Full}


def rightful(setting, user, ask):
    """The name of the first view that is not for the user, as the ask is read from the left, or None."""
    views = {view[0]: view for view in setting[2]}
    if ask[0] == "view":
        name, inner, mode, users = views[ask[1]]
        if users and user not in users:
            return name
        return rightful(setting, user, inner) if mode == "asker" else None
    for part in ask[1:3 if ask[0] in ("pairs", "both", "less") else 1 if ask[0] == "rows" else 2]:
        found = rightful(setting, user, part)
        if found is not None:
            return found
    return None


class AskedAgainstSlowTest(unittest.TestCase):
    def assert_refused(self, name, setting, world, user, ask):
        for call in [
            lambda: answer(setting, world, user, ask), lambda: heard(setting, world, user, ask),
            lambda: rewritten(setting, user, ask),
        ]:
            with self.assertRaises(NoRight) as caught:
                call()
            self.assertEqual(caught.exception.name, name)

    def assert_like_slow(self, maker, setting, heads):
        ground = setting[0]
        user = maker.chance.randint(0, 3)
        ask, head = maker.bounded_ask(ground, setting[2], heads, False)
        name = rightful(setting, user, ask)
        if name is not None:
            self.assert_refused(name, setting, maker.world(ground), user, ask)
            return 0
        plain = rewritten(setting, user, ask)
        low = put_low(ground, plain)
        self.assertEqual(plain_head(ground, plain), head)
        self.assertEqual(plain_head(ground, low), head)
        self.assertEqual(faults(ground, low), [])
        self.assertEqual(seals_in(low), [("seal", put_low(ground, seal[1])) for seal in seals_in(plain)])
        self.assertEqual(put_low(ground, low), low)
        for world in [tuple(() for table in ground)] + [maker.world(ground) for step in range(3)]:
            listened = set()
            expected_head, rows = slow.asked(setting, world, user, ask, listened)
            expected = (head, sorted(rows))
            self.assertEqual(expected_head, head)
            self.assertEqual(answer(setting, world, user, ask), expected)
            self.assertEqual(heard(setting, world, user, ask), sorted(listened))
            self.assertEqual(plain_answer(ground, world, plain), expected)
            self.assertEqual(plain_heard(ground, world, plain), sorted(listened))
            self.assertEqual(plain_answer(ground, world, low), expected)
        return 1

    def test_asks(self):
        compared = 0
        for seed in range(700):
            maker = Maker(seed)
            setting, heads = maker.setting(maker.ground())
            with self.subTest(seed=seed):
                self.assertIs(is_setting(setting), True)
                for step in range(3):
                    compared += self.assert_like_slow(maker, setting, heads)
        self.assertGreater(compared, 1000)

    def test_seen_worlds(self):
        for seed in range(500):
            maker = Maker(seed)
            setting, heads = maker.setting(maker.ground())
            world = maker.world(setting[0])
            other_order = (setting[0], setting[1][::-1], setting[2])
            with self.subTest(seed=seed):
                for user in range(9):
                    told = seen_world(setting, world, user)
                    self.assertEqual(told, slow.seen(setting, world, user))
                    self.assertIs(is_world(setting[0], told), True)
                    self.assertEqual(seen_world(other_order, world, user), told)


class LowAgainstSlowTest(unittest.TestCase):
    def test_plain_asks(self):
        compared, as_loud = 0, 0
        for seed in range(1500):
            maker = Maker(seed)
            ground = maker.ground()
            ask, head = maker.tree(
                ground, maker.leaves(ground, [], {}), maker.chance.randint(0, 5),
                lambda names: maker.condition(ground, names, 3),
            )
            if maker.counted(ask) > 2 or len(head) > 9:
                continue
            compared += 1
            with self.subTest(seed=seed, ask=ask):
                low = put_low(ground, ask)
                self.assertEqual(plain_head(ground, low), head)
                self.assertEqual(faults(ground, low), [])
                self.assertEqual(seals_in(low), [("seal", put_low(ground, seal[1])) for seal in seals_in(ask)])
                self.assertEqual(put_low(ground, low), low)
                hears_alike = not words_in(ask) & {"named", "pairs", "less"}
                for world in [tuple(() for table in ground)] + [maker.world(ground) for step in range(3)]:
                    self.assertEqual(plain_answer(ground, world, low), plain_answer(ground, world, ask))
                    if hears_alike:
                        told = plain_heard(ground, world, low)
                        self.assertEqual(told, plain_heard(ground, world, ask))
                        as_loud += told != []
        self.assertGreater(compared, 800)
        self.assertGreater(as_loud, 100)

    def test_worlds_that_are_alike(self):
        parted, pairs = 0, 0
        for seed in range(60):
            maker = Maker(seed)
            setting, heads = maker.setting(maker.small_ground())
            ground = setting[0]
            worlds = all_worlds(ground)
            for user in [0, 1]:
                groups = self.grouped(setting, user, worlds)
                for ask in self.rightful_asks(maker, setting, heads, user):
                    low = put_low(ground, rewritten(setting, user, ask))
                    with self.subTest(seed=seed, user=user, ask=ask):
                        for group in groups:
                            told = [plain_heard(ground, world, low) for world in group]
                            self.assertEqual(told, [told[0]] * len(told))
                            pairs += len(told) > 1 and told[0] != []
                    parted += len(groups) > 1
        self.assertGreater(parted, 50)
        self.assertGreater(pairs, 50)

    def grouped(self, setting, user, worlds):
        """The worlds, those together that are alike for the user."""
        base = [("rows", table[0]) for table in setting[0]]
        base += [
            ("view", name) for name, ask, mode, users in setting[2]
            if mode == "own" and (not users or user in users)
        ]
        groups = {}
        for world in worlds:
            told = repr([sorted(slow.asked(setting, world, user, ask, set())[1]) for ask in base])
            groups.setdefault(told, []).append(world)
        return list(groups.values())

    def rightful_asks(self, maker, setting, heads, user):
        asks = [maker.bounded_ask(setting[0], setting[2], heads, False)[0] for step in range(6)]
        return [ask for ask in asks if rightful(setting, user, ask) is None and "'loud'" in repr(ask)]


class WrittenAgainstSlowTest(unittest.TestCase):
    def came(self, call):
        """What a call told, or the word of what refused it."""
        try:
            return call()
        except VeilError as refusal:
            return refusal.__class__.__name__

    def some_row(self, maker, table):
        return tuple(maker.chance.choice([-1] * may + list(range(size))) for column, size, may in table[2])

    def writing_setting(self, maker):
        """A setting that lets more be written than by chance."""
        (ground, rules, views), heads = maker.setting(maker.ground())
        for name, key, columns in ground:
            for verb in ["put", "drop", "read"]:
                condition = maker.bounded(ground, [column[0] for column in columns], True)
                rule = (verb, "let", name, (), maker.chance.choice([("yes",), condition]))
                rules += [rule] * (rule not in rules and len(rules) < 10)
        return ground, rules, views

    def test_puts(self):
        seen = set()
        for seed in range(500):
            maker = Maker(seed)
            setting = self.writing_setting(maker)
            world = maker.world(setting[0])
            table = maker.chance.choice(setting[0])
            for step in range(4):
                row, user = self.some_row(maker, table), maker.chance.randint(0, 3)
                expected = slow.tried(setting, world, user, table[0], row)
                seen.add(expected)
                with self.subTest(seed=seed, row=row):
                    self.assertEqual(tried(setting, world, user, table[0], row), expected)
                    if expected != "put":
                        with self.assertRaises(REFUSALS[expected]):
                            put_row(setting, world, user, table[0], row)
                        continue
                    rows = slow.rows_of(setting[0], world, table[0]) + (row,)
                    told = put_row(setting, world, user, table[0], row)
                    self.assertEqual(told, slow.with_rows(setting, world, table[0], rows))
                    self.assertIs(is_world(setting[0], told), True)
        self.assertLessEqual({"put", "barred", "taken"}, seen)

    def test_drops_and_turns(self):
        words = {}
        for seed in range(1200):
            maker = Maker(seed)
            setting = self.writing_setting(maker)
            ground, world = setting[0], maker.world(setting[0])
            table, user = maker.chance.choice(ground), maker.chance.randint(0, 3)
            condition = maker.bounded(ground, [column[0] for column in table[2]], False)
            name, size, may = maker.chance.choice(table[2])
            value = maker.chance.choice([-1] * may + list(range(size)))
            with self.subTest(seed=seed):
                gone = slow.meant(setting, world, user, table[0], condition)
                kept = [row for row in slow.rows_of(ground, world, table[0]) if row not in gone]
                dropped = drop_rows(setting, world, user, table[0], condition)
                self.assertEqual(dropped, slow.with_rows(setting, world, table[0], kept))
                self.assertIs(is_world(ground, dropped), True)
                came = self.came(lambda: turn_rows(setting, world, user, table[0], condition, name, value))
                self.assertEqual(came, slow.turned(setting, world, user, table[0], condition, name, value))
                word = came if isinstance(came, str) else "same" if came == world else "turned"
                words[word] = words.get(word, 0) + 1
                self.assertIs(isinstance(came, str) or is_world(ground, came), True)
        self.assertGreater(min(words.get(word, 0) for word in ["NotLet", "Taken", "same", "turned"]), 20, words)


if __name__ == "__main__":
    unittest.main()
