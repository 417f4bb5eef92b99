"""Point 28: the desk, each row that it knows, and its refusals."""

import inspect
import itertools
import unittest

from rowveil.desk import Desk
from rowveil.errors import (
    Full, InUse, NoAsk, NoCondition, NoGround, NoLine, NoneOpen, NoRight, NoRow, NoRule, NotLet, NotThere, NoTable, NoText,
    NoUser, NoView, Taken, TooDeep, TooMany, Twice, VeilError,
)
from rowveil.stores import Store
from tests.store_things import GROUND, SMALL, WIDE
from tests.things import anything


class DeskTestCase(unittest.TestCase):
    def desk(self, *rows, ground=GROUND):
        """A desk that was told these rows, all of which it answers with ok."""
        desk = Desk(ground)
        for row in rows:
            self.assertEqual(desk.say(row), "ok", row)
        return desk

    def assert_said(self, desk, *pairs):
        for row, expected in pairs:
            with self.subTest(row):
                self.assertEqual(desk.say(row), expected)

    def assert_refused(self, desk, error, *rows):
        for row in rows:
            ahead = desk.say("state"), desk.say("rows")
            with self.subTest(row):
                with self.assertRaises(VeilError) as caught:
                    desk.say(row)
                self.assertIs(type(caught.exception), error)
            self.assertEqual((desk.say("state"), desk.say("rows")), ahead)


class RowsTest(DeskTestCase):
    def test_no_ground(self):
        for thing in anything() + [list(GROUND), GROUND[::-1], (GROUND,)]:
            with self.subTest(thing), self.assertRaises(NoGround):
                Desk(thing)

    def test_all_rows(self):
        desk = Desk(GROUND)
        self.assert_said(
            desk,
            ("state", "2 tables, 0 rules, 0 views, 0 rows"), ("rows", "0"),
            ("fill t 0 0", "ok"), ("fill t 1 -", "ok"), ("fill u 1", "ok"), ("rows", "3"),
            ("ask 0 rows t", "none"), ("rule read let t all a mine or a = 1", "ok"), ("rule drop let t 0,3 yes", "ok"),
            ("ask 0 rows t", "0,0;1,-"), ("ask 1 rows t", "1,-"), ("ask 8 rows t | keep b,a", "-,1"), ("ask 2 rows u", "none"),
            ("show w own 0,1 rows u | count n", "ok"), ("show x asker all view w | seal", "ok"),
            ("ask 1 view x", "1"), ("state", "2 tables, 2 rules, 2 views, 3 rows"),
            ("begin", "ok"), ("drop 0 t yes", "2"), ("rows", "1"), ("back", "ok"), ("rows", "3"),
            ("begin", "ok"), ("drop 3 t not a = 0", "1"), ("drop 3 t yes", "0"), ("commit", "ok"), ("rows", "2"),
            ("hide x", "ok"), ("hide w", "ok"), ("strike drop let t 0,3 yes", "ok"), ("clear t 0 0", "ok"), ("clear u 1", "ok"),
            ("rule put let t 2 b < 2", "ok"), ("put 2 t 3 1", "ok"), ("ask 3 rows t", "3,1"), ("rows", "1"),
            ("state", "2 tables, 2 rules, 0 views, 1 rows"),
        )

    def test_could_and_knows(self):
        desk = self.desk("fill t 0 1", "fill t 1 -", "rule read let t all yes", ground=SMALL)
        self.assert_said(
            desk, ("could 0", "64"), ("knows 0 rows t", "may"), ("ask 0 rows t | count n", "2"), ("could 0", "36"), ("could 1", "64"),
            ("knows 0 rows t | count n", "knows 2"), ("knows 0 rows t", "may"), ("ask 0 rows t", "0,1;1,-"), ("could 0", "4"),
            ("knows 0 rows t", "knows 0,1;1,-"), ("knows 1 rows t", "may"), ("knows 0 rows u", "may"),
            ("knows 0 rows u | where not yes", "knows none"), ("knows 0 rows t | keep b", "knows -;1"),
            ("begin", "ok"), ("could 0", "64"), ("knows 0 rows t", "may"),
        )

    def test_answers(self):
        desk = self.desk("fill t 3 -", "fill t 0 2", "fill t 2 0", "fill u 0", "rule read let t all yes", "rule read let u all yes")
        self.assert_said(
            desk, ("ask 0 rows t", "0,2;2,0;3,-"), ("ask 0 rows t | keep b", "-;0;2"), ("ask 0 rows t | where a = 1", "none"),
            ("ask 0 rows t | count n", "3"), ("ask 0 rows u", "0"), ("ask 0 ( rows u pairs rows t | where b empty )", "0,3,-"),
            ("ask 0 rows t | where a loud and b < 3", "0,2;2,0"),
        )

    def test_as_a_store_with_the_same_rules(self):
        desk, store = Desk(GROUND), Store(GROUND)
        desk.say("rule put must u 0,2,8 has t c a ( b = 1 and not a mine )")
        store.put_rule(("put", "must", "u", (0, 2, 8), ("has", "t", "c", "a", ("and", ("is", "b", 1), ("not", ("mine", "a"))))))
        desk.say("show w own all ( rows u less rows u | where c = 1 )")
        store.put_view(("w", ("less", ("rows", "u"), ("where", ("rows", "u"), ("is", "c", 1))), "own", ()))
        desk.say("fill t 2 -")
        store.fill("t", (2, -1))
        self.assertEqual(desk.say("state"), str(store))
        self.assertTrue(store in [value for value in vars(desk).values() if isinstance(value, Store)])

    def test_verbs_kinds_and_modes(self):
        for verb, kind in itertools.product(["read", "put", "drop"], ["let", "must"]):
            desk = self.desk(f"rule {verb} {kind} t all yes")
            self.assertEqual(desk.say("state"), "2 tables, 1 rules, 0 views, 0 rows")
            self.assert_refused(desk, Twice, f"rule {verb} {kind} t all yes", f"rule {verb} {kind} t all ( yes )")
            self.assertEqual(desk.say(f"strike {verb} {kind} t all ( yes )"), "ok")
        self.assertEqual(self.desk("show w own all rows t", "show x asker 8 view w").say("state"), "2 tables, 0 rules, 2 views, 0 rows")

    def test_two_desks(self):
        desk, other = Desk(GROUND), Desk(GROUND)
        desk.say("fill t 0 0")
        self.assertEqual([desk.say("rows"), other.say("rows")], ["1", "0"])

    def test_methods(self):
        self.assertEqual(str(inspect.signature(vars(Desk)["say"])), "(self, row)")
        self.assertEqual(str(inspect.signature(Desk)), "(ground)")


class NoLineTest(DeskTestCase):
    def test_what_is_no_text(self):
        for thing in anything():
            if thing != "rows":
                self.assert_refused(self.desk(), NoLine, thing)
        for thing in [["begin"], ("begin",), ["fill", "t", "0", "0"], [["rows"]], ("rows",)]:
            self.assert_refused(self.desk(), NoLine, thing)

    def test_words_that_are_none(self):
        self.assert_refused(
            self.desk(), NoLine, "", "Begin", "BEGIN", "beginn", "roll_back", "turn 0 t yes b 1", "run", "len", "take w", "view w",
            "notes", "begin;", "-", "0", "t", "rule", "strike", "show", "hide", "fill", "clear", "put", "drop", "could", "ask", "knows",
            "asks 0", "known 0 rows t", "put_rule read let t all yes", "fill_in t 0 0", "clear_row t 0 0",
        )

    def test_counts_of_words(self):
        self.assert_refused(
            self.desk(), NoLine, "begin now", "back 1", "commit all", "rows t", "state of t", "could", "could 0 1", "hide", "hide w x",
            "fill t", "fill", "clear t", "put 0 t", "put 0", "drop 0 t", "drop 0", "ask 0", "knows 0", "rule read let t all",
            "rule read let t", "rule read let", "strike read let t all", "show w own all", "show w own", "show w",
        )

    def test_empty_words(self):
        rows = [
            "begin", "rows", "fill t 0 0", "rule read let t all a = 1", "ask 0 rows t", "drop 0 t yes", "could 0", "hide w",
            "show w own all rows t", "knows 0 rows t", "put 0 t 0 0", "clear t 0 0", "state",
        ]
        for row in rows:
            self.assert_refused(self.desk(), NoLine, f" {row}", f"{row} ", f"  {row}", f"{row}  ", f" {row} ")
            for place, sign in enumerate(row):
                if sign == " ":
                    self.assert_refused(self.desk(), NoLine, f"{row[:place]} {row[place:]}", f"{row[:place]}  {row[place:]}")
        self.assert_refused(self.desk(), NoLine, " ", "  ", "drop 0 t (  (", "ask 0 no  ask", "rule read let t all  ")

    def test_line_ends(self):
        self.assert_refused(self.desk(), NoLine, "begin\n", "\nbegin", "fill t 0\n0", "fill t 0 0\n", "fill\nt 0 0", "rows\n", "could 0\n", "\n")
        self.assert_refused(self.desk(), NoText, "ask 0 rows t\n", "drop 0 t yes\n", "drop 0 t a\n= 1")

    def test_verbs_kinds_and_modes(self):
        for word in ["rule", "strike"]:
            self.assert_refused(
                self.desk(), NoLine, f"{word} ask let t all yes", f"{word} Read let t all yes", f"{word} read may t all yes",
                f"{word} let read t all yes", f"{word} read own t all yes", f"{word} - let t all yes", f"{word} turn let t all yes",
            )
        self.assert_refused(
            self.desk(), NoLine, "show w let all rows t", "show w Own all rows t", "show w read all rows t", "show w 0 all rows t",
        )

    def test_names(self):
        for word in ["T", "abcdefghi", "t1", "1", "-", "t,u", "rows", "where", "has", "seal", "yes", "both", "a-b", "(", "|"]:
            self.assert_refused(
                self.desk(), NoLine, f"rule read let {word} all yes", f"strike read let {word} all yes", f"show {word} own all rows t",
                f"hide {word}", f"fill {word} 0", f"clear {word} 0", f"put 0 {word} 0", f"drop 0 {word} yes",
            )

    def test_users(self):
        for word in ["100", "00", "01", "007", "-1", "-", "a", "all", "1,2", "1,", "", "+1", "1.0", "x", "123", "0x1", "1_1"]:
            self.assert_refused(
                self.desk(), NoLine, f"put {word} t 0 0", f"drop {word} t yes", f"could {word}", f"ask {word} rows t", f"knows {word} rows t",
            )

    def test_lists_of_users(self):
        for word in ["100", "00", "01", "0,00", "1,02", "1,", ",1", ",", "1,,2", "-", "-1", "a", "all,1", "1,all", "All", "1;2", "()", "none", "1,100"]:
            self.assert_refused(
                self.desk(), NoLine, f"rule read let t {word} yes", f"strike read let t {word} yes", f"show w own {word} rows t",
            )

    def test_values(self):
        for word in ["100", "00", "01", "-1", "--", "a", "all", "1,2", "+1", "empty", "none", "1-", "123", "0,0"]:
            self.assert_refused(
                self.desk(), NoLine, f"fill t {word} 0", f"fill t 0 {word}", f"clear t 0 {word}", f"put 0 t 0 {word}", f"fill t 0 0 {word}",
            )

    def test_ahead_of_no_text(self):
        self.assert_refused(
            self.desk(), NoLine, "rule ask let t all ( (", "rule read let t 01 no", "show w none all no ask", "ask 100 no ask",
            "drop 0 rows no condition", "knows x no", "rule read let t all (  (", "nothing ( (",
        )


class NoTextTest(DeskTestCase):
    def test_conditions(self):
        for text in ["a", "a = 10", "a = 01", "( yes", "yes )", "a == 1", "yes and", "loud a", "rows t", "has t a b yes", "not", "A = 1", "-", "0"]:
            self.assert_refused(self.desk(), NoText, f"rule read let t all {text}", f"strike read let t all {text}", f"drop 0 t {text}")

    def test_asks(self):
        for text in ["t", "rows", "rows T", "( rows t )", "rows t |", "rows t | keep a,a", "yes", "view w x", "rows t seal", "-", "0"]:
            self.assert_refused(self.desk(), NoText, f"show w own all {text}", f"ask 0 {text}", f"knows 0 {text}")

    def test_bounds(self):
        nine = "not not not not not not not not yes"
        self.assert_refused(self.desk(), NoText, f"drop 0 t {nine}", f"ask 0 rows t | where {nine}", "ask 0 rows t" + " | seal" * 8)
        self.assert_said(self.desk(), (f"drop 0 t {nine[4:]}", "0"), ("ask 0 rows t" + " | seal" * 7, "none"))
        deep = "( " * 20 + "yes" + " )" * 20
        self.assert_said(self.desk(), (f"drop 0 t {deep}", "0"), (f"rule read let t all {deep}", "ok"))
        self.assert_refused(self.desk(), NoText, f"drop 0 t ( {deep} )")

    def test_ahead_of_the_refusals_of_the_store(self):
        self.assert_refused(
            self.desk(), NoText, "rule read let none all no", "strike read let t 9,8 no", "show w own 9 no", "drop 99 none no", "ask 9 no",
            "knows 99 no ask", "knows 0 no ask",
        )


class StoreRefusalsTest(DeskTestCase):
    def test_numbers_of_two_figures(self):
        for user in ["9", "10", "42", "99"]:
            self.assert_refused(
                self.desk(), NoUser, f"put {user} t 0 0", f"put {user} none 0", f"drop {user} t yes", f"could {user}", f"ask {user} rows t",
                f"knows {user} rows t", f"ask {user} rows none",
            )
        self.assert_refused(self.desk(), NoRow, "fill t 10 0", "fill t 0 99", "put 0 t 0 99", "fill t 4 0", "fill t 0 3", "fill t - 0", "fill u -")
        self.assert_refused(self.desk(), NoRow, "fill t 0", "fill t 0 0 0", "put 0 u 0 0")

    def test_no_table(self):
        self.assert_refused(self.desk(), NoTable, "fill none 0", "clear none 0", "put 0 none 0", "drop 0 none yes", "fill v 99")

    def test_rules(self):
        desk = self.desk("rule read let t 1,2 yes")
        self.assert_refused(
            desk, NoRule, "rule read let none all yes", "rule read let t 9 yes", "rule read let t 2,1 yes", "rule read let t 1,1 yes",
            "rule read let t 0,1,2,3,4 yes", "rule read let t all a loud", "rule read let t all c = 1", "rule read let t 99 yes",
        )
        self.assert_refused(desk, Twice, "rule read let t 1,2 yes", "rule read let t 1,2 ( ( yes ) )")
        self.assert_refused(desk, NotThere, "strike read let t all yes", "strike read let t 2,1 yes", "strike read let none all yes", "strike put let t 1,2 yes")
        for value in range(9):
            desk.say(f"rule read let t {value} yes")
        self.assert_refused(desk, TooMany, "rule put let t all yes")

    def test_views(self):
        desk = self.desk("show w own 1 rows t", "show x asker all view w")
        self.assert_refused(desk, NoView, "show y own all view z", "show y own 9 rows t", "show y own 2,1 rows t", "show y own all rows t | where a loud")
        self.assert_refused(desk, Twice, "show w own all rows t")
        self.assert_refused(desk, InUse, "hide w")
        self.assert_refused(desk, NotThere, "hide z", "hide t")
        self.assert_refused(desk, NoRight, "ask 0 view w", "ask 0 view x")
        self.assert_refused(desk, NoAsk, "ask 0 view z", "ask 0 rows none", "ask 0 rows t | keep c")
        desk.say("show y own all rows t")
        desk.say("show z own all rows t")
        self.assert_refused(desk, TooMany, "show v own all rows t")

    def test_rows(self):
        desk = self.desk("fill t 0 0", "fill u 1")
        self.assert_refused(desk, Taken, "fill t 0 0", "fill t 0 -", "fill u 1")
        self.assert_refused(desk, NotThere, "clear t 0 1", "clear t 0", "clear t 99 99", "clear u 0", "clear u -")
        self.assert_refused(desk, NotLet, "put 0 t 1 1", "put 0 t 0 0")
        self.assert_refused(desk, NoCondition, "drop 0 t c = 1", "drop 0 u a mine", "drop 0 t has v a a ( yes )")
        desk.say("rule put let t all yes")
        self.assert_refused(desk, Taken, "put 0 t 0 1")
        wide = self.desk(*[f"fill t {value} 0" for value in range(9)], "fill t 0 1", "fill t 0 2", "fill t 0 3", ground=WIDE)
        self.assert_refused(wide, Full, "fill t 8 8")

    def test_begins(self):
        desk = self.desk()
        self.assert_refused(desk, NoneOpen, "back", "commit")
        for step in range(5):
            desk.say("begin")
        self.assert_refused(desk, TooDeep, "begin")

    def test_secrets(self):
        self.assert_refused(self.desk(), TooMany, "could 0", "knows 0 rows t", "knows 0 view w")
        desk = self.desk("show w own all rows t", ground=SMALL)
        self.assert_refused(desk, NoAsk, "knows 0 view w", "knows 0 rows none", "knows 0 rows t | where a mine")


if __name__ == "__main__":
    unittest.main()
