"""Point 25: what users asked since the last deed, and what they can know by it."""

import unittest

from rowveil.asks import plain_answer
from rowveil.errors import NoAsk, NoRight, NoUser, TooMany, VeilError
from rowveil.grounds import all_worlds
from rowveil.stores import Store
from tests.store_things import GROUND, NO, SMALL, T, U, YES, StoreTestCase, filled, rule, view
from tests.test_stores import NO_USERS
from tests.things import anything

HEAD = ("a", "b")
NINE = (("t", 0, (("a", 8, False),)), ("u", 0, (("c", 1, False),)))


def small(*rules, t=(), u=(), views=()):
    store = filled(SMALL, t=t, u=u)
    for one in rules:
        store.put_rule(one)
    for one in views:
        store.put_view(one)
    return store


class AsksTest(StoreTestCase):
    def test_in_order(self):
        store = small(rule(), t=[(0, 0), (1, -1)])
        self.assertEqual(store.asks_of(0), [])
        kept = ("keep", T, ("b",))
        for ask in [T, kept, U, T]:
            store.ask(0, ask)
        rows = (T, (HEAD, [(0, 0), (1, -1)]))
        self.assertEqual(store.asks_of(0), [rows, (kept, (("b",), [(-1,), (0,)])), (U, (("c",), [])), rows])
        self.assertEqual([type(part) for part in store.asks_of(0)], [tuple] * 4)

    def test_of_each_user_its_own(self):
        store = small(rule(condition=("mine", "a")), t=[(0, 0), (1, -1)])
        store.ask(1, T)
        store.ask(0, T)
        store.ask(1, U)
        self.assertEqual(store.asks_of(0), [(T, (HEAD, [(0, 0)]))])
        self.assertEqual(store.asks_of(1), [(T, (HEAD, [(1, -1)])), (U, (("c",), []))])
        self.assertEqual(store.asks_of(2), [])

    def test_refused_ones_are_not_among_them(self):
        store = small(rule(), t=[(0, 0)], views=[view("w", T, "own", (1,))])
        store.ask(0, T)
        for user, ask, error in [(0, ("view", "w"), NoRight), (0, ("rows", "v"), NoAsk), (9, T, NoUser), (0, None, NoAsk)]:
            self.assert_refused(error, store, lambda: store.ask(user, ask))
        store.ask(0, U)
        self.assertEqual([ask for ask, told in store.asks_of(0)], [T, U])

    def deeds(self, store):
        """Each deed with all that is due for it, some of which change nothing."""
        return [
            lambda: store.put_rule(rule(condition=NO)), lambda: store.strike_rule(rule(condition=NO)),
            lambda: store.put_view(view("x")), lambda: store.take_view("x"), lambda: store.fill("u", (1,)),
            lambda: store.clear_row("u", (1,)), lambda: store.put(0, "t", (1, 0)), lambda: store.drop(0, "t", NO),
            lambda: store.drop(1, "t", ("is", "a", 1)), lambda: store.turn(0, "t", NO, "b", 1),
            lambda: store.turn(0, "t", YES, "b", 0), store.begin, store.begin, store.commit, store.roll_back,
        ]

    def test_gone_behind_each_deed(self):
        store = small(rule(), rule("put"), rule("drop"), t=[(0, 0)])
        for number, deed in enumerate(self.deeds(store)):
            with self.subTest(number):
                store.ask(0, T)
                store.ask(3, U)
                self.assertEqual([len(store.asks_of(0)), len(store.asks_of(3))], [1, 1])
                deed()
                self.assertEqual([store.asks_of(0), store.asks_of(3)], [[], []])
        self.assertEqual(store.all_rows(), (((0, 0),), ()))

    def test_still_there_behind_what_is_refused(self):
        store = small(rule(), t=[(0, 0)], views=[view("w"), view("x", ("view", "w"))])
        for many in range(5):
            store.begin()
        store.ask(0, T)
        store.ask(3, U)
        for deed in [
            lambda: store.put_rule(rule()), lambda: store.put_rule(None), lambda: store.strike_rule(rule("put")),
            lambda: store.put_view(view("w")), lambda: store.put_view(None), lambda: store.take_view("w"),
            lambda: store.take_view(None), lambda: store.fill("t", (0, 1)), lambda: store.fill(None, None),
            lambda: store.clear_row("t", (1, 1)), lambda: store.put(0, "t", (1, 1)), lambda: store.drop(0, "t", None),
            lambda: store.turn(0, "t", YES, "b", 9), store.begin, lambda: store.run(None), lambda: store.ask(0, None),
            lambda: store.run([("fill", "u", (0,)), ("begin",)]),
        ]:
            with self.assertRaises(VeilError):
                deed()
            self.assertEqual(store.asks_of(0), [(T, (HEAD, [(0, 0)]))])
            self.assertEqual(store.asks_of(3), [(U, (("c",), []))])

    def test_still_there_behind_what_only_tells(self):
        store = small(rule(), t=[(0, 0)])
        store.ask(0, T)
        for call in [
            store.all_rules, store.all_views, store.all_rows, store.open_begins, lambda: len(store), lambda: str(store),
            lambda: store == store, lambda: store.could_be(0), lambda: store.known(0, T), store.notes, store.runs_open,
            lambda: store.asks_of(1),
        ]:
            call()
            self.assertEqual(len(store.asks_of(0)), 1)

    def test_no_user(self):
        for store in [small(rule(), t=[(0, 0)]), Store(GROUND)]:
            for thing in NO_USERS:
                with self.subTest(thing):
                    self.assert_refused(NoUser, store, lambda: store.asks_of(thing))
                    self.assert_refused(NoUser, store, lambda: store.could_be(thing))
                    # NoAsk, and over the large ground TooMany, would be due, too.
                    self.assert_refused(NoUser, store, lambda: store.known(thing, None))


class CouldBeTest(StoreTestCase):
    def test_without_asks_all_worlds(self):
        store = small(rule(), t=[(0, 0)])
        many = len(all_worlds(SMALL))
        self.assertEqual(many, 64)
        self.assertEqual([store.could_be(user) for user in range(9)], [many] * 9)

    def test_fewer_by_each_ask(self):
        store = small(rule(), rule(table="u", condition=("is", "c", 1)), t=[(0, 0)], u=[(1,)])
        for ask, many in [(("count", T, "n"), 24), (("keep", T, ("b",)), 8), (T, 4), (U, 2), (T, 2)]:
            store.ask(0, ask)
            self.assertEqual(store.could_be(0), many)
        # What another user asked tells this one nothing.
        self.assertEqual(store.could_be(1), 64)
        store.begin()
        self.assertEqual(store.could_be(0), 64)

    def test_rules_and_views_are_those_of_now(self):
        store = small(t=[(0, 0)], views=[view("w", ("count", T, "n"), "own"), view("x", T, "asker")])
        store.ask(0, ("view", "x"))
        self.assertEqual(store.could_be(0), 64)
        store.ask(0, ("view", "w"))
        self.assertEqual(store.could_be(0), 24)
        store.put_rule(rule(condition=("mine", "a"), users=(0,)))
        store.ask(0, T)
        store.ask(1, T)
        self.assertEqual([store.could_be(0), store.could_be(1)], [16, 64])

    def test_too_many(self):
        for ground in [NINE, GROUND]:
            store = Store(ground)
            store.ask(0, ("rows", "t"))
            self.assert_refused(TooMany, store, lambda: store.could_be(0))
            for secret in [("rows", "t"), None, ("view", "w")]:
                self.assert_refused(TooMany, store, lambda: store.known(0, secret))
        self.assertEqual(Store(NINE[:1]).could_be(0), 256)


class KnownTest(StoreTestCase):
    def test_knows(self):
        store = small(rule(), t=[(0, 0)])
        store.ask(0, T)
        self.assertEqual(store.known(0, T), ("knows", [(0, 0)]))
        self.assertEqual(store.known(0, ("count", T, "n")), ("knows", [(1,)]))
        self.assertEqual(store.known(0, ("where", U, NO)), ("knows", []))
        self.assertIs(type(store.known(0, T)[1]), list)

    def test_may(self):
        store = small(rule(), t=[(1, 0)])
        self.assertEqual(store.known(0, T), ("may", ((), ())))
        store.ask(0, ("count", T, "n"))
        self.assertEqual(store.known(0, T), ("may", (((0, -1),), ())))
        self.assertEqual(store.known(0, U), ("may", (((0, -1),), ((0,),))))
        self.assertEqual(store.known(0, ("count", T, "n")), ("knows", [(1,)]))
        store.ask(0, T)
        self.assertEqual(store.known(0, T), ("knows", [(1, 0)]))
        self.assertEqual(store.known(0, U), ("may", (((1, 0),), ((0,),))))

    def test_it_is_by_what_was_asked_not_by_what_could_be(self):
        store = small(rule(), t=[(1, 0)])
        self.assertEqual(store.known(0, T)[0], "may")
        store.ask(1, T)
        self.assertEqual(store.known(0, T)[0], "may")
        self.assertEqual(store.known(1, T), ("knows", [(1, 0)]))
        store.drop(0, "t", NO)
        self.assertEqual(store.known(1, T)[0], "may")

    def test_no_secret(self):
        store = small(rule(), t=[(1, 0)], views=[view("w")])
        for thing in anything() + [("view", "w"), ("where", T, ("mine", "a")), ("rows", "v")]:
            with self.subTest(thing):
                self.assert_refused(NoAsk, store, lambda: store.known(0, thing))

    def test_held_against_all_worlds(self):
        store = small(
            rule(condition=("has", "u", "a", "c", YES)), rule(table="u", condition=("is", "c", 0)), t=[(0, 1), (1, 0)], u=[(0,)],
            views=[view("w", ("count", U, "n"))],
        )
        asks = [U, ("count", T, "n"), ("view", "w"), ("less", T, ("where", T, ("is", "b", 1)))]
        secrets = [T, U, ("keep", T, ("a",)), ("count", U, "n"), ("where", T, ("empty", "b"))]
        words = []
        for ask in asks:
            store.ask(0, ask)
            alike = self.alike(store)
            self.assertEqual(store.could_be(0), len(alike))
            for secret in secrets:
                rows = plain_answer(SMALL, store.all_rows(), secret)[1]
                others = [world for world in alike if plain_answer(SMALL, world, secret)[1] != rows]
                expected = ("may", others[0]) if others else ("knows", rows)
                self.assertEqual(store.known(0, secret), expected)
                words.append(expected[0])
        self.assertGreater(words.count("knows"), 3)
        self.assertGreater(words.count("may"), 3)

    def alike(self, store):
        """The worlds that would answer all so, each one found by a store that has it."""
        found = []
        for world in all_worlds(SMALL):
            other = small(*store.all_rules(), t=world[0], u=world[1], views=store.all_views())
            if [other.ask(0, ask) for ask, told in store.asks_of(0)] == [told for ask, told in store.asks_of(0)]:
                found.append(world)
        return found


if __name__ == "__main__":
    unittest.main()
