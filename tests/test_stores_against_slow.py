"""Many rows of deeds, asks and runs, done to a store and to a plain model of it that copies all it has at each step."""

import copy
import unittest

from rowveil import errors
from rowveil.errors import VeilError
from rowveil.grounds import is_ground
from rowveil.stores import Store
from tests import slow
from tests.making import Maker
from tests.test_settings_against_slow import rightful

GROUND = (("s", 1, (("a", 2, False),)), ("t", 1, (("a", 2, False), ("b", 2, True))))
WORDS = (
    "put_rule put_rule put_rule strike_rule put_view put_view take_view fill clear_row put put drop turn begin begin roll_back "
    "commit fill fill"
).split()


class Refused(Exception):
    def __init__(self, word):
        self.word = word


class Model:
    """A store as the document tells it, of things that are well made throughout."""

    def __init__(self):
        self.rules, self.views, self.world = [], [], ((), ())
        self.begins, self.asks, self.notes, self.runs = [], [], [], 0

    def setting(self):
        return GROUND, self.rules, self.views

    def do(self, deed):
        """What a deed tells."""
        told = getattr(self, deed[0])(*deed[1:])
        if deed[0] != "run":
            self.asks = []
        return told

    def refuse(self, due, word):
        if due:
            raise Refused(word)

    def put_rule(self, rule):
        self.refuse(rule in self.rules, "Twice")
        self.refuse(len(self.rules) == 10, "TooMany")
        self.rules = sorted(self.rules + [rule])

    def strike_rule(self, rule):
        self.refuse(rule not in self.rules, "NotThere")
        self.rules = [other for other in self.rules if other != rule]

    def put_view(self, view):
        names = [name for name, ask, mode, users in self.views]
        self.refuse(any(name not in names for name in named_in(view[1])), "NoView")
        self.refuse(view[0] in names, "Twice")
        self.refuse(len(names) == 4, "TooMany")
        self.views = self.views + [view]

    def take_view(self, name):
        self.refuse(name not in [view[0] for view in self.views], "NotThere")
        self.refuse(any(name in named_in(view[1]) for view in self.views), "InUse")
        self.views = [view for view in self.views if view[0] != name]

    def rows(self, table):
        return slow.rows_of(GROUND, self.world, table)

    def with_rows(self, table, rows):
        self.world = slow.with_rows(self.setting(), self.world, table, rows)

    def fill(self, table, row):
        keys = [slow.key(self.setting(), table, other) for other in self.rows(table)]
        self.refuse(slow.key(self.setting(), table, row) in keys, "Taken")
        self.with_rows(table, [*self.rows(table), row])

    def clear_row(self, table, row):
        self.refuse(row not in self.rows(table), "NotThere")
        self.with_rows(table, [other for other in self.rows(table) if other != row])

    def put(self, user, table, row):
        came = slow.tried(self.setting(), self.world, user, table, row)
        self.refuse(came == "barred", "NotLet")
        self.fill(table, row)

    def drop(self, user, table, condition):
        gone = slow.meant(self.setting(), self.world, user, table, condition)
        self.with_rows(table, [row for row in self.rows(table) if row not in gone])
        return len(gone)

    def turn(self, user, table, condition, column, value):
        came = slow.turned(self.setting(), self.world, user, table, condition, column, value)
        self.refuse(isinstance(came, str), came)
        many = len(slow.meant(self.setting(), self.world, user, table, condition))
        self.world = came
        return many

    def begin(self):
        self.refuse(len(self.begins) == 5, "TooDeep")
        self.begins = self.begins + [(self.rules, self.views, self.world)]

    def roll_back(self):
        self.refuse(not self.begins, "NoneOpen")
        self.rules, self.views, self.world = self.begins[-1]
        self.begins = self.begins[:-1]

    def commit(self):
        self.refuse(not self.begins, "NoneOpen")
        self.begins = self.begins[:-1]

    def run(self, deeds):
        ahead = copy.deepcopy((self.rules, self.views, self.world, self.begins, self.asks))
        self.runs += 1
        self.notes.append(("in", self.runs))
        try:
            return [self.do(deed) for deed in deeds]
        except Refused:
            self.rules, self.views, self.world, self.begins, self.asks = ahead
            raise
        finally:
            self.notes.append(("out", self.runs))
            self.runs -= 1

    def ask(self, user, ask):
        self.refuse(rightful(self.setting(), user, ask) is not None, "NoRight")
        head, rows = slow.asked(self.setting(), self.world, user, ask, set())
        self.asks.append((user, ask, (head, sorted(rows))))
        return head, sorted(rows)


def named_in(ask):
    """The names of the views that stand in an ask."""
    if ask[0] == "view":
        return [ask[1]]
    parts = ask[1:3] if ask[0] in ("pairs", "both", "less") else ask[1:2] if ask[0] != "rows" else ()
    return [name for part in parts for name in named_in(part)]


class Doer:
    """Makes deeds and asks that fit what a model has, most of the time."""

    def __init__(self, seed):
        self.maker = Maker(seed)
        self.chance = self.maker.chance
        self.model = Model()

    def row(self, table):
        return tuple(self.chance.choice([-1] * may + list(range(size))) for column, size, may in table[2])

    def rule(self):
        table = self.chance.choice(GROUND)
        columns = [column[0] for column in table[2]]
        condition = self.chance.choice([("yes",), ("yes",), self.maker.bounded(GROUND, columns, True)])
        verb, kind = self.chance.choice(["read", "put", "drop"]), self.chance.choice(["let", "let", "let", "must"])
        return (verb, kind, table[0], self.chance.choice([(), (), (0,), (1, 2)]), condition)

    def first_rules(self):
        """Some that let much be done."""
        rules = [(verb, "let", table[0], (), ("yes",)) for verb in ["read", "put", "drop"] for table in GROUND]
        return self.chance.sample(rules, self.chance.randint(0, 6))

    def view(self):
        name = self.chance.choice("wxyz")
        ask = self.chance.choice([
            ("rows", "s"), ("count", ("rows", "t"), "a"), ("keep", ("rows", "t"), ("a",)), ("view", self.chance.choice("wxyz")),
            ("both", ("rows", "s"), ("view", self.chance.choice("wxyz"))),
        ])
        return (name, ask, self.chance.choice(["own", "asker"]), self.chance.choice([(), (0, 1)]))

    def deed(self, depth=0):
        word = self.chance.choice(WORDS + ["run"] * 2 * (depth < 4))
        table, user = self.chance.choice(GROUND), self.chance.randint(0, 2)
        condition = self.chance.choice([("yes",), self.maker.bounded(GROUND, [column[0] for column in table[2]], False)])
        if word == "put_rule":
            return (word, self.rule())
        if word == "strike_rule":
            return (word, self.chance.choice(self.model.rules or [self.rule()]))
        if word == "put_view":
            return (word, self.view())
        if word == "take_view":
            return (word, self.chance.choice("wxyz"))
        if word in ("fill", "clear_row"):
            return (word, table[0], self.row(table))
        if word == "put":
            return (word, user, table[0], self.row(table))
        if word == "drop":
            return (word, user, table[0], condition)
        if word == "turn":
            column, size, may = self.chance.choice(table[2])
            return (word, user, table[0], condition, column, self.chance.randint(-1 if may else 0, size - 1))
        if word == "run":
            return (word, [self.deed(depth + 1) for step in range(self.chance.randint(0, 3))])
        return (word,)

    def ask(self):
        leaves = [("rows", "s"), ("keep", ("rows", "t"), ("a",))] + [
            ("keep", ("view", view[0]), ("a",)) for view in self.model.views
        ]
        ask = self.chance.choice(leaves)
        return self.chance.choice([ask, ("less", ask, self.chance.choice(leaves)), ("count", ask, "n")])


class StoresAgainstSlowTest(unittest.TestCase):
    def came(self, call):
        """What a call told, or the word of what refused it."""
        try:
            return call()
        except Refused as refusal:
            return refusal.word
        except VeilError as refusal:
            return type(refusal).__name__

    def assert_alike(self, store, model):
        self.assertEqual(store.all_rules(), model.rules)
        self.assertEqual(store.all_views(), model.views)
        self.assertEqual(store.all_rows(), model.world)
        self.assertEqual(store.open_begins(), len(model.begins))
        self.assertEqual(store.notes(), model.notes)
        self.assertEqual((store.runs_open(), len(store)), (0, sum(len(rows) for rows in model.world)))
        for user in range(4):
            self.assertEqual(store.asks_of(user), [(ask, told) for asker, ask, told in model.asks if asker == user])

    def test_rows_of_deeds(self):
        words = {}
        for seed in range(250):
            doer, store = Doer(seed), Store(GROUND)
            for rule in doer.first_rules():
                store.put_rule(rule)
                doer.model.put_rule(rule)
            for step in range(60):
                with self.subTest(seed=seed, step=step):
                    if doer.chance.random() < 0.3:
                        user, ask = doer.chance.randint(0, 3), doer.ask()
                        told = self.came(lambda: store.ask(user, ask))
                        self.assertEqual(told, self.came(lambda: doer.model.ask(user, ask)))
                        word = ("ask", told if isinstance(told, str) else "told")
                    else:
                        deed = doer.deed()
                        told = self.came(lambda: getattr(store, deed[0])(*deed[1:]))
                        self.assertEqual(told, self.came(lambda: doer.model.do(deed)))
                        word = (deed[0], told if isinstance(told, str) else "done")
                    words[word] = words.get(word, 0) + 1
                    self.assert_alike(store, doer.model)
        for word in WORDS + ["run"]:
            self.assertGreater(words[word, "done"], 10, words)
        refusals = {refusal for word, refusal in words if word != "run"} - {"done", "told"}
        self.assertEqual(refusals, {
            "Twice", "TooMany", "NotThere", "NoView", "InUse", "Taken", "NotLet", "TooDeep", "NoneOpen", "NoRight",
        })
        self.assertLessEqual({"Taken", "NotThere", "NoneOpen", "NotLet"}, {refusal for word, refusal in words if word == "run"})
        self.assertTrue(all(hasattr(errors, refusal) for refusal in refusals))
        self.assertIs(is_ground(GROUND), True)


if __name__ == "__main__":
    unittest.main()
