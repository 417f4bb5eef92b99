"""Point 2 of what can be learnt, of stores, texts and desks: copies, new lists, and the same answers again."""

import copy
import unittest

from rowveil.desk import Desk
from rowveil.errors import VeilError
from rowveil.learning import base_asks, kept, learns, parting, to_strike
from rowveil.stores import Store
from rowveil.texts import ask_text, condition_text, read_ask, read_condition
from tests.store_things import GROUND, NO, SMALL, T, U, YES, filled, rule, things_but, told_of, view
from tests.test_handed_in import rebuilt

RULES = [rule(), rule("put"), rule("drop"), rule(table="u", condition=("has", "t", "c", "a", YES))]
VIEWS = [view("w", ("count", U, "n"), "own", (0, 1)), view("x", ("view", "w"), "asker")]
SETTING = (SMALL, RULES, VIEWS)
WORLD = (((0, 0), (1, -1)), ((1,),))
SECRETS = [T, U, ("count", U, "n"), ("keep", T, ("b",))]


def made(ground=SMALL):
    store = filled(ground, t=WORLD[0], u=WORLD[1])
    for one in RULES:
        store.put_rule(one)
    for one in VIEWS:
        store.put_view(one)
    return store


def spoil(thing):
    """Changes each list that is told, also those within."""
    if isinstance(thing, (list, tuple)):
        for part in thing:
            spoil(part)
    if isinstance(thing, list):
        thing.append("more")
        thing.reverse()


class LearningTest(unittest.TestCase):
    def calls(self, setting, secret):
        calls = [lambda: base_asks(setting, 0), lambda: parting(setting, 0, WORLD, ((), ()))]
        for tries in [False, True]:
            calls += [
                lambda tries=tries: learns(setting, 0, WORLD, secret, tries=tries),
                lambda tries=tries: kept(setting, 0, secret, tries=tries),
                lambda tries=tries: to_strike(setting, 0, secret, tries=tries),
            ]
        return calls

    def test_what_is_handed_in_reads_as_ahead(self):
        for secret in SECRETS:
            setting, handed = copy.deepcopy((SETTING, secret))
            for call in self.calls(setting, handed):
                call()
                self.assertEqual((setting, handed), (SETTING, secret))

    def test_told_lists_may_be_changed(self):
        for secret in SECRETS:
            for call in self.calls(SETTING, secret):
                first = call()
                whole = copy.deepcopy(first)
                second = call()
                spoil(first)
                self.assertEqual(second, whole)
                self.assertEqual(call(), whole)

    def test_the_same_object_twice(self):
        condition = ("is", "a", 0)
        shared = (SMALL, [rule(condition=condition), rule("put", condition=condition)], [view("w", T), view("x", T)])
        ask = ("where", T, condition)
        secret = ("both", ask, ask)
        for one, other in zip(self.calls(shared, secret), self.calls(rebuilt(shared), rebuilt(secret))):
            self.assertEqual(one(), other())


class StoreTest(unittest.TestCase):
    def test_told_answers_may_be_changed(self):
        store = made()
        for ask in [T, ("keep", T, ("a",)), ("named", T, ("x", "y")), ("seal", U), ("view", "x"), ("both", T, T), ("less", U, U)]:
            whole = copy.deepcopy(store.ask(0, ask))
            spoil(store.ask(0, ask))
            self.assertEqual(store.ask(0, ask), whole)
            self.assertEqual(store.asks_of(0)[-3:], [(ask, whole)] * 3)

    def test_told_lists_may_be_changed(self):
        store = made()
        store.ask(0, T)
        store.ask(0, ("view", "w"))
        for question in [
            store.all_rules, store.all_views, store.all_rows, lambda: store.asks_of(0), lambda: store.known(0, T),
            lambda: store.known(0, ("count", U, "n")),
        ]:
            first = question()
            whole = copy.deepcopy(first)
            second = question()
            spoil(first)
            self.assertEqual(second, whole)
            self.assertEqual(question(), whole)

    def test_notes_may_be_changed(self):
        store = made()
        store.run([("run", [])])
        whole = store.notes()
        spoil(store.notes())
        self.assertEqual(store.notes(), whole)

    def test_told_runs_are_new(self):
        store = made()
        deeds = [("run", []), ("run", [("run", [])])]
        spoil(store.run(deeds))
        self.assertEqual(store.run(deeds), [[], [[]]])

    def test_what_is_told_stays(self):
        """What was told is not changed by what is done later."""
        store = made()
        store.ask(0, T)
        told = [store.all_rules(), store.all_views(), store.all_rows(), store.notes(), store.asks_of(0), store.ask(0, T)]
        whole = copy.deepcopy(told)
        store.ask(0, U)
        store.run([("strike_rule", rule()), ("take_view", "x"), ("clear_row", "t", (0, 0)), ("begin",), ("fill", "t", (0, 1))])
        store.roll_back()
        self.assertEqual(told, whole)

    def test_what_is_handed_in_is_not_changed(self):
        store = made()
        deeds = [
            ("put_rule", rule(condition=NO)), ("put_view", view("y")), ("run", [("fill", "u", (0,)), ("begin",)]), ("drop", 0, "t", NO),
            ("turn", 0, "t", YES, "b", 1),
        ]
        whole = copy.deepcopy(deeds)
        store.run(deeds)
        self.assertEqual(deeds, whole)
        with self.assertRaises(VeilError):
            store.run(deeds)
        self.assertEqual(deeds, whole)

    def test_what_was_handed_in_may_be_changed(self):
        store, other = made(), made()
        inner = [("fill", "u", (0,))]
        deeds = [("run", inner), ("put_view", view("y")), ("begin",)]
        other.run(copy.deepcopy(deeds))
        told = store.run(deeds)
        spoil(deeds)
        self.assertEqual(told, [[None], None, None])
        self.assertEqual((told_of(store), store.notes()), (told_of(other), other.notes()))
        self.assertTrue(store == other)

    def test_wrong_things_read_as_ahead(self):
        store = made()
        ahead = told_of(store)
        for thing, whole in zip(things_but((0, 0)), things_but((0, 0))):
            for call in [
                store.put_rule, store.strike_rule, store.put_view, store.take_view, lambda thing: store.fill("t", thing),
                lambda thing: store.clear_row("t", thing), lambda thing: store.drop(0, "t", thing), lambda thing: store.ask(0, thing),
                lambda thing: store.known(0, thing), lambda thing: store.run([thing]), lambda thing: store.run(("run", thing)),
            ]:
                with self.assertRaises(VeilError):
                    call(thing)
                self.assertEqual(thing, whole)
        self.assertEqual(told_of(store), ahead)

    def test_two_stores_do_nothing_to_one_another(self):
        ground = rebuilt(SMALL)
        store, other, third = Store(ground), Store(ground), made()
        ahead = told_of(third)
        store.put_rule(RULES[0])
        store.put_view(VIEWS[0])
        store.fill("t", (0, 0))
        store.begin()
        store.ask(0, T)
        store.run([("begin",)])
        self.assertEqual(told_of(other), told_of(Store(SMALL)))
        self.assertEqual(other.notes(), [])
        self.assertEqual(told_of(third), ahead)
        with self.assertRaises(VeilError):
            other.roll_back()

    def test_the_same_object_twice(self):
        row, condition, ask = (1, 0), ("is", "c", 1), ("where", U, ("is", "c", 1))
        ground = (("t", 0, (("c", 2, False), ("d", 2, False))), ("u", 0, (("c", 2, False), ("e", 2, False))))
        stores = [Store(ground), Store(rebuilt(ground))]
        for store, again in zip(stores, [lambda thing: thing, rebuilt]):
            fill = ("fill", "t", again(row))
            deeds = [fill, ("fill", "u", again(row)), ("begin",), ("clear_row", "t", again(row)), again(fill)]
            store.run(deeds)
            store.put_rule(rule(condition=again(condition)))
            store.put_rule(rule("drop", "u", again(condition)))
            store.put_view(view("w", ("both", again(ask), again(ask))))
            store.put_view(view("x", ("both", again(ask), again(ask))))
            store.ask(0, ("both", again(ask), again(ask)))
            store.ask(0, again(ask))
        self.assertTrue(stores[0] == stores[1])
        self.assertEqual(told_of(stores[0]), told_of(stores[1]))
        self.assertEqual(stores[0].known(0, ask), stores[1].known(0, ask))

    def test_the_same_question_again(self):
        store = made()
        for ask in [T, U, ("view", "w")]:
            store.ask(0, ask)
        first = [store.could_be(0), store.known(0, T), store.asks_of(0), told_of(store)]
        store.could_be(1)
        made().ask(0, T)
        self.assertEqual([store.could_be(0), store.known(0, T), store.asks_of(0), told_of(store)], first)


class TextsAndDeskTest(unittest.TestCase):
    def test_texts(self):
        condition, ask = ("and", ("not", YES), ("has", "t", "a", "b", YES)), ("keep", ("where", T, YES), ("a", "b"))
        handed = copy.deepcopy((condition, ask))
        for step in range(2):
            self.assertEqual(read_condition(condition_text(condition)), condition)
            self.assertEqual(read_ask(ask_text(ask)), ask)
        self.assertEqual((condition, ask), handed)
        same = ("or", condition, condition)
        self.assertEqual(condition_text(same), condition_text(rebuilt(same)))

    def test_desks(self):
        ground = rebuilt(GROUND)
        desk, other = Desk(ground), Desk(ground)
        for row in ["fill t 0 0", "rule read let t all yes", "ask 0 rows t", "begin"]:
            desk.say(row)
        self.assertEqual(other.say("state"), "2 tables, 0 rules, 0 views, 0 rows")
        for step in range(2):
            self.assertEqual([desk.say(row) for row in ["ask 0 rows t", "rows", "state"]], ["0,0", "1", "2 tables, 1 rules, 0 views, 1 rows"])
        self.assertEqual(ground, GROUND)


if __name__ == "__main__":
    unittest.main()
