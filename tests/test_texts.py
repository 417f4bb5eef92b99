"""Point 27: conditions and asks written as texts, and read."""

import inspect
import unittest

from rowveil import texts
from rowveil.errors import NoText
from rowveil.texts import ask_text, condition_text, read_ask, read_condition
from tests.making import Maker, asks_in, count_pairs, measured
from tests.things import anything

YES = ("yes",)
NAMES = ["a", "b", "t", "zz", "abcdefgh"]
WORDS = (
    "rows view where keep named pairs both less count seal and or not mine empty loud yes has"
).split()
A, B, C = ("is", "a", 1), ("is", "b", 2), ("is", "c", 3)
T, U = ("rows", "t"), ("rows", "u")

CONDITIONS = [
    (YES, "yes"),
    (("is", "a", 3), "a = 3"), (("is", "abcdefgh", 0), "abcdefgh = 0"), (("is", "a", 9), "a = 9"),
    (("below", "a", 3), "a < 3"), (("below", "a", 0), "a < 0"), (("below", "a", 10), "a < 10"),
    (("same", "a", "b"), "a = b"), (("same", "a", "a"), "a = a"),
    (("mine", "a"), "a mine"), (("empty", "a"), "a empty"), (("loud", "a"), "a loud"),
    (("has", "t", "a", "b", YES), "has t a b ( yes )"),
    (("has", "t", "a", "b", ("or", A, B)), "has t a b ( a = 1 or b = 2 )"),
    (("not", YES), "not yes"), (("not", ("not", ("mine", "a"))), "not not a mine"), (("not", A), "not a = 1"),
    (("and", A, B), "a = 1 and b = 2"), (("or", A, B), "a = 1 or b = 2"),
    # Both are read from the left.
    (("and", ("and", A, B), C), "a = 1 and b = 2 and c = 3"), (("and", A, ("and", B, C)), "a = 1 and ( b = 2 and c = 3 )"),
    (("or", ("or", A, B), C), "a = 1 or b = 2 or c = 3"), (("or", A, ("or", B, C)), "a = 1 or ( b = 2 or c = 3 )"),
    # And binds closer than or, not closer than both.
    (("or", ("and", A, B), C), "a = 1 and b = 2 or c = 3"), (("or", A, ("and", B, C)), "a = 1 or b = 2 and c = 3"),
    (("and", ("or", A, B), C), "( a = 1 or b = 2 ) and c = 3"), (("and", A, ("or", B, C)), "a = 1 and ( b = 2 or c = 3 )"),
    (("not", ("and", A, B)), "not ( a = 1 and b = 2 )"), (("not", ("or", A, B)), "not ( a = 1 or b = 2 )"),
    (("and", ("not", A), B), "not a = 1 and b = 2"), (("and", A, ("not", B)), "a = 1 and not b = 2"),
    (("or", ("not", A), ("not", B)), "not a = 1 or not b = 2"),
    (("not", ("not", ("or", A, B))), "not not ( a = 1 or b = 2 )"),
    (("or", ("and", A, B), ("and", B, C)), "a = 1 and b = 2 or b = 2 and c = 3"),
    (("and", ("or", A, B), ("or", B, C)), "( a = 1 or b = 2 ) and ( b = 2 or c = 3 )"),
    (("not", ("has", "t", "a", "b", ("and", A, B))), "not has t a b ( a = 1 and b = 2 )"),
    (("and", ("has", "t", "a", "b", YES), ("has", "u", "c", "d", YES)), "has t a b ( yes ) and has u c d ( yes )"),
    (("has", "t", "a", "b", ("and", A, ("or", B, C))), "has t a b ( a = 1 and ( b = 2 or c = 3 ) )"),
    (("and", ("and", A, ("and", B, C)), YES), "a = 1 and ( b = 2 and c = 3 ) and yes"),
]

ASKS = [
    (T, "rows t"), (("view", "v"), "view v"), (("rows", "abcdefgh"), "rows abcdefgh"),
    (("where", T, A), "rows t | where a = 1"), (("where", T, ("or", A, B)), "rows t | where a = 1 or b = 2"),
    (("where", ("where", T, A), B), "rows t | where a = 1 | where b = 2"),
    (("keep", T, ("a",)), "rows t | keep a"), (("keep", T, ("b", "a")), "rows t | keep b,a"),
    (("named", T, ("x", "y", "zz")), "rows t | named x,y,zz"),
    (("count", T, "n"), "rows t | count n"), (("seal", T), "rows t | seal"),
    (("pairs", T, U), "( rows t pairs rows u )"), (("both", T, U), "( rows t both rows u )"),
    (("less", T, U), "( rows t less rows u )"), (("both", T, T), "( rows t both rows t )"),
    (("seal", ("pairs", T, U)), "( rows t pairs rows u ) | seal"),
    (("pairs", ("seal", T), ("seal", U)), "( rows t | seal pairs rows u | seal )"),
    (("pairs", T, ("pairs", U, ("view", "v"))), "( rows t pairs ( rows u pairs view v ) )"),
    (("less", ("both", T, U), U), "( ( rows t both rows u ) less rows u )"),
    (("pairs", ("where", T, ("or", A, ("and", B, C))), U), "( rows t | where a = 1 or b = 2 and c = 3 pairs rows u )"),
    (("less", T, ("where", U, ("and", ("or", A, B), C))), "( rows t less rows u | where ( a = 1 or b = 2 ) and c = 3 )"),
    (("where", ("less", T, U), ("same", "a", "b")), "( rows t less rows u ) | where a = b"),
    (("keep", ("count", ("named", ("view", "v"), ("a", "b")), "n"), ("n",)), "view v | named a,b | count n | keep n"),
]


class WrittenTest(unittest.TestCase):
    def test_conditions(self):
        for condition, text in CONDITIONS:
            with self.subTest(text):
                self.assertEqual(condition_text(condition), text)
                self.assertEqual(read_condition(text), condition)

    def test_asks(self):
        for ask, text in ASKS:
            with self.subTest(text):
                self.assertEqual(ask_text(ask), text)
                self.assertEqual(read_ask(text), ask)

    def test_each_condition_in_each_ask(self):
        for condition, text in CONDITIONS:
            for ask, written in [
                (("where", T, condition), f"rows t | where {text}"),
                (("seal", ("where", T, condition)), f"rows t | where {text} | seal"),
                (("less", ("where", T, condition), U), f"( rows t | where {text} less rows u )"),
                (("less", U, ("where", T, condition)), f"( rows u less rows t | where {text} )"),
            ]:
                self.assertEqual(ask_text(ask), written)
                self.assertEqual(read_ask(written), ask)

    def test_what_is_larger_is_written_all_the_same(self):
        many, deep, text = A, YES, "yes"
        for step in range(12):
            many, deep, text = ("and", many, B), ("has", "t", "a", "b", deep), f"has t a b ( {text} )"
        self.assertEqual(condition_text(many), "a = 1" + " and b = 2" * 12)
        self.assertEqual(condition_text(deep), text)
        ask = T
        for step in range(150):
            ask = ("seal", ask)
        self.assertEqual(ask_text(ask), "rows t" + " | seal" * 150)

    def test_what_is_written_is_read_to_the_same(self):
        for seed in range(400):
            maker = Maker(seed)
            ground = maker.ground()
            condition = maker.bounded(ground, ["a", "b", "c"], False)
            ask, head = maker.bounded_ask(ground, [], {}, False)
            with self.subTest(seed=seed):
                self.assertEqual(read_condition(condition_text(condition)), condition)
                self.assertEqual(read_ask(ask_text(ask)), ask)

    def test_no_bracket_could_be_left_out(self):
        """Without any pair of brackets, but has's own, a written condition is read otherwise, or not at all."""
        left_out = 0
        for seed in range(1200):
            maker = Maker(seed)
            condition = maker.bounded(maker.ground(), ["a", "b", "c"], False)
            words = condition_text(condition).split(" ")
            for first, last in brackets_in(words):
                left_out += 1
                less = " ".join(word for place, word in enumerate(words) if place not in (first, last))
                with self.subTest(condition=condition, less=less):
                    try:
                        self.assertNotEqual(read_condition(less), condition)
                    except NoText:
                        pass
        self.assertGreater(left_out, 50)

    def test_brackets_that_are_not_needed(self):
        """Round any condition within one, also several."""
        for seed in range(150):
            maker = Maker(seed)
            condition = maker.bounded(maker.ground(), ["a", "b", "c"], False)
            for many in [1, 3]:
                with self.subTest(condition=condition):
                    self.assertEqual(read_condition(bracketed(condition, many)), condition)


def brackets_in(words):
    """The places of each pair of brackets but those of has."""
    open_ones, found = [], []
    for place, word in enumerate(words):
        if word == "(":
            open_ones.append(place)
        if word == ")":
            first = open_ones.pop()
            if first < 4 or words[first - 4] != "has":
                found.append((first, place))
    return found


def bracketed(condition, many):
    """The text with so many brackets round each condition."""
    word, *behind = condition
    inner = [bracketed(part, many) for part in behind if isinstance(part, tuple)]
    if word in ("and", "or"):
        text = f"{inner[0]} {word} {inner[1]}"
    elif word == "not":
        text = f"not {inner[0]}"
    elif word == "has":
        text = f"has {behind[0]} {behind[1]} {behind[2]} ( {inner[0]} )"
    else:
        text = condition_text(condition)
    return "( " * many + text + " )" * many


class Refusing(unittest.TestCase):
    def assert_no_condition(self, thing):
        with self.subTest(thing), self.assertRaises(NoText):
            read_condition(thing)

    def assert_no_ask(self, thing):
        with self.subTest(thing), self.assertRaises(NoText):
            read_ask(thing)

    def assert_neither(self, thing):
        self.assert_no_condition(thing)
        self.assert_no_ask(thing)


class ReadConditionTest(Refusing):
    def assert_read(self, text, condition):
        with self.subTest(text):
            self.assertEqual(read_condition(text), condition)
            self.assertEqual(read_ask(f"rows t | where {text}"), ("where", T, condition))

    def assert_refused(self, text):
        self.assert_no_condition(text)
        self.assert_no_ask(f"rows t | where {text}")

    def test_brackets(self):
        self.assert_read("( yes )", YES)
        self.assert_read("( ( yes ) )", YES)
        self.assert_read("( a = 1 and b = 2 ) and c = 3", ("and", ("and", A, B), C))
        self.assert_read("a = 1 or ( b = 2 and c = 3 )", ("or", A, ("and", B, C)))
        self.assert_read("not ( a = 1 )", ("not", A))
        self.assert_read("( not a = 1 )", ("not", A))
        self.assert_read("( not ( ( a = 1 ) ) )", ("not", A))
        self.assert_read("( has t a b ( ( yes ) ) )", ("has", "t", "a", "b", YES))

    def test_brackets_that_do_not_fit(self):
        for text in [
            "( yes", "yes )", "( yes ) )", "( ( yes )", ") yes (", "( )", "(", ")", "()", "(yes)", "( yes)", "( a = 1 and )",
            "( a ) = 1", "a ( = 1 )", "a = ( 1 )", "( a mine", "not ( ) yes", "has t a b ( yes", "has t a b ( )",
        ]:
            self.assert_refused(text)

    def test_twenty_and_twenty_one(self):
        for many, expected in [(19, True), (20, True), (21, False), (30, False), (900, False)]:
            text = "( " * many + "a = 1" + " )" * many
            if expected:
                self.assert_read(text, A)
            else:
                self.assert_refused(text)

    def test_brackets_side_by_side(self):
        one = "( " * 20 + "a = 1" + " )" * 20
        self.assert_read(f"{one} and {one}", ("and", A, A))
        self.assert_refused(f"( {one} and {one} )")
        # One round all that follows is still counted behind others that have ended.
        self.assert_refused(f"( ( yes ) and {one} )")
        self.assert_refused(f"( not ( ( yes ) ) or {one} )")
        self.assert_read(f"( ( yes ) and {one[2:-2]} )", ("and", YES, A))
        self.assert_refused(f"not ( {one} or yes )")

    def test_brackets_round_a_has_count_within_it(self):
        for outer, inner, expected in [(20, 0, True), (0, 20, True), (10, 10, True), (10, 11, False), (20, 1, False), (0, 21, False), (21, 0, False)]:
            text = "( " * outer + "has t a b ( " + "( " * inner + "yes" + " )" * inner + " )" + " )" * outer
            if expected:
                self.assert_read(text, ("has", "t", "a", "b", YES))
            else:
                self.assert_refused(text)

    def test_brackets_of_asks_are_not_counted(self):
        deep = "( " * 20 + "a = 1" + " )" * 20
        text, ask = f"rows t | where {deep}", ("where", T, A)
        for step in range(3):
            text, ask = f"( {text} both rows u )", ("both", ask, U)
        self.assertEqual(read_ask(text), ask)

    def test_eight_parts_and_nine(self):
        text, built = "yes", YES
        for parts in range(2, 12):
            text, built = f"not {text}", ("not", built)
            if parts <= 8:
                self.assert_read(text, built)
            else:
                self.assert_refused(text)
        four = "a = 1 and b = 2 and c = 3 and yes"
        built = ("and", ("and", ("and", A, B), C), YES)
        self.assert_read(four, built)
        self.assert_read(f"not ( {four} )", ("not", built))
        self.assert_refused(f"{four} and yes")
        self.assert_refused(f"not not ( {four} )")
        self.assert_refused(f"not {four} and yes")
        self.assert_refused(four.replace("and", "or") + " or yes")

    def test_parts_within_a_has_count(self):
        six = ("not", ("or", ("and", A, B), YES))
        self.assert_read("has t a b ( not ( a = 1 and b = 2 or yes ) )", ("has", "t", "a", "b", six))
        self.assert_read("not has t a b ( not ( a = 1 and b = 2 or yes ) )", ("not", ("has", "t", "a", "b", six)))
        self.assert_refused("not not has t a b ( not ( a = 1 and b = 2 or yes ) )")
        self.assert_refused("yes and has t a b ( not ( a = 1 and b = 2 or yes ) )")

    def test_has_within_has(self):
        inner = "has t a b ( yes )"
        self.assert_read(f"{inner} and {inner}", ("and", ("has", "t", "a", "b", YES), ("has", "t", "a", "b", YES)))
        for text in [f"has t a b ( {inner} )", f"has t a b ( not {inner} )", f"has t a b ( ( yes or {inner} ) )", f"{inner} or has u a b ( {inner} )"]:
            self.assert_refused(text)

    def test_numbers(self):
        for number in range(10):
            self.assert_read(f"a = {number}", ("is", "a", number))
        for number in range(11):
            self.assert_read(f"a < {number}", ("below", "a", number))
        for number in ["10", "11", "99", "100", "1" * 30, "-1", "00", "01", "09", "007", "+1", "1.0", "1_0", "x1", "1x", "0x1", ""]:
            self.assert_refused(f"a = {number}")
        for number in ["11", "12", "010", "100", "00", "05", "-1", "a", "b", "1,2", ""]:
            self.assert_refused(f"a < {number}")

    def test_words_in_a_place_of_a_name(self):
        for word in WORDS + ["A", "aB", "abcdefghi", "a1", "10", "a_b", "a,b", "a-b", "|", "=", "<", "( a )", "a.b", "~"]:
            for text in [
                f"{word} = 1", f"a = {word}", f"{word} = a", f"{word} < 1", f"{word} mine",
                f"{word} empty", f"{word} loud", f"has {word} a b ( yes )", f"has t {word} b ( yes )", f"has t a {word} ( yes )",
            ]:
                self.assert_refused(text)

    def test_any_names_are_read(self):
        for name in NAMES + ["is", "below", "same", "all", "try", "read", "own", "let", "own"]:
            self.assert_read(f"{name} = 1", ("is", name, 1))
            self.assert_read(f"a = {name}", ("same", "a", name))
            self.assert_read(f"has {name} {name} {name} ( {name} loud )", ("has", name, name, name, ("loud", name)))

    def test_what_is_not_so_written(self):
        for text in [
            "", "a", "a =", "= 1", "a 1", "a == 1", "a > 1", "a <= 1", "a=1", "a= 1", "a =1", "1 = a", "a is 1", "a below 1",
            "a same b", "same a b", "mine a", "a not mine", "not", "and", "or", "a = 1 and", "and a = 1", "or yes", "yes or",
            "yes and and yes", "yes or and yes", "yes not yes", "yes yes", "yes a = 1", "a = 1 b = 2", "a = 1 2", "a mine mine",
            "a mine b", "YES", "Yes", "yes;", "not not", "a and b", "true", "a = 1 xor b = 2", "yes | yes", "a < b",
            "has t a b yes", "has t a ( yes )", "has t a b c ( yes )", "has ( t a b yes )", "has t a b ( yes ) yes", "has t",
            "rows t", "( a = 1 ) ( b = 2 )", "a = 1 & b = 2", "not and yes", "yes and not", "yes and or yes",
        ]:
            self.assert_refused(text)

    def test_blanks_and_line_ends(self):
        for text in [
            " yes", "yes ", "  ", " ", "a  = 1", "a =  1", "a = 1 ", " a = 1", "not  yes", "a\n= 1", "yes\n", "\nyes", "a = 1\n",
            "yes \n", "\n", "a = 1\nand b = 2", "a = 1 and\nb = 2", "( yes )\n", "has t a b ( yes  )", "yes and  yes", "\n\n",
        ]:
            self.assert_no_condition(text)
            self.assert_no_ask(f"rows t | where {text}")


class ReadAskTest(Refusing):
    def test_what_is_not_so_written(self):
        for text in [
            "", "rows", "view", "t", "rows t u", "rows t,u", "rows t rows u", "view", "view v w", "( rows t )", "( view v )",
            "( rows t ) | seal", "rows t |", "| seal", "rows t | | seal", "rows t seal", "rows t | seal a", "rows t | seals",
            "rows t | rows u", "rows t | view v", "rows t | pairs rows u", "rows t pairs rows u", "rows t both rows u",
            "( rows t pairs )", "( pairs rows t )", "( rows t pairs rows u", "rows t pairs rows u )", "( rows t pairs rows u ) )",
            "( rows t pairs rows u pairs rows v )", "( ( rows t pairs rows u ) )", "( rows t and rows u )", "( rows t rows u )",
            "( rows t | pairs rows u )", "rows t | where", "rows t | where | seal", "where rows t | a = 1", "seal rows t",
            "rows t | keep", "rows t | keep a b", "rows t | keep a, b", "rows t | keep a ,b", "rows t | keep ,a", "rows t | keep a,",
            "rows t | keep a,,b", "rows t | keep ,", "rows t | named", "rows t | named a b", "rows t | named a,", "rows t | count",
            "rows t | count n m", "rows t | count n,m", "rows t | count 1", "rows t| seal", "rows t |seal", "rows t|seal",
            "rows t | where a = 1 | ", "( rows t | where a = 1 ) | seal", "rows t )", "( rows t", "rows ( t )", "(rows t pairs rows u)",
            "Rows t", "rows T", "yes", "a = 1", "( rows t less rows u ) seal", "( rows t | where ( a = 1 less rows u ) )",
            "x rows t pairs rows u )", "seal rows t both rows u )", "| rows t less rows u )", ") rows t less rows u )",
            "( rows t or rows u )", "( rows t PAIRS rows u )", "rows t | where yes pairs rows u", "( rows t less )",
        ]:
            self.assert_no_ask(text)

    def test_blanks_and_line_ends(self):
        for text in [
            " rows t", "rows t ", "rows  t", "rows t  | seal", "rows t |  seal", "rows t | seal ", "rows\nt", "rows t\n", "\nrows t",
            "rows t\n| seal", "rows t | keep a,b\n", "( rows t pairs rows u )\n", "rows t | keep\na", "rows t | count n\n", " ",
            "(  rows t pairs rows u )", "( rows t pairs  rows u )", "rows t | keep a,b ", "rows t | keep a,\nb",
        ]:
            self.assert_no_ask(text)

    def test_names_alike(self):
        for word in ["keep", "named"]:
            for names in ["a,a", "a,b,a", "b,a,a", "abc,abc"]:
                self.assert_no_ask(f"rows t | {word} {names}")
            # Those of another ask are others.
            self.assertEqual(read_ask(f"rows t | {word} a,b | {word} b,a")[2], ("b", "a"))

    def test_words_in_a_place_of_a_name(self):
        for word in WORDS + ["A", "abcdefghi", "a1", "0", "|", "(", ")", "=", "a-b"]:
            for text in [
                f"rows {word}", f"view {word}", f"rows t | keep {word}", f"rows t | keep a,{word}", f"rows t | named {word}",
                f"rows t | named {word},b", f"rows t | count {word}",
            ]:
                self.assert_no_ask(text)

    def test_heads_tables_and_views_are_not_looked_at(self):
        for text, ask in [
            ("( rows t pairs rows t )", ("pairs", T, T)), ("rows none | keep x,y", ("keep", ("rows", "none"), ("x", "y"))),
            ("( rows t | count n both rows u )", ("both", ("count", T, "n"), U)), ("view rule | count t", ("count", ("view", "rule"), "t")),
            ("rows t | keep a | where b = c", ("where", ("keep", T, ("a",)), ("same", "b", "c"))),
        ]:
            self.assertEqual(read_ask(text), ask)
            self.assertEqual(ask_text(ask), text)
        many = tuple("abcdefghijklmnopqrstuvwxyz")
        self.assertEqual(read_ask("rows t | named " + ",".join(many)), ("named", T, many))

    def test_eight_parts_and_nine(self):
        text, ask = "rows t", T
        for parts in range(2, 12):
            text, ask = f"{text} | seal", ("seal", ask)
            if parts <= 8:
                self.assertEqual(read_ask(text), ask)
            else:
                self.assert_no_ask(text)
        text, ask = "rows t", T
        for parts in range(3, 14, 2):
            text, ask = f"( {text} both rows u )", ("both", ask, U)
            if parts <= 7:
                self.assertEqual(read_ask(text), ask)
                self.assertEqual(read_ask(f"{text} | seal"), ("seal", ask))
            else:
                self.assert_no_ask(text)
        four = "( ( rows t both rows u ) less ( rows t both rows u ) )"
        self.assertEqual(len(list(asks_in(read_ask(four)))), 7)
        self.assertEqual(read_ask(f"{four} | count n")[0], "count")
        self.assert_no_ask(f"{four} | count n | seal")
        self.assert_no_ask(f"( {four} less rows t )")

    def test_parts_of_conditions_are_no_parts_of_asks(self):
        eight = "not not not not not not not yes"
        text = "rows t" + f" | where {eight}" * 7
        ask = read_ask(text)
        self.assertEqual((len(list(asks_in(ask))), ask_text(ask)), (8, text))
        self.assertEqual(measured(ask[2]), (8, False))
        self.assert_no_ask("rows t" + f" | where {eight}" * 8)
        self.assert_no_ask(f"rows t | where yes | where not {eight}")

    def test_has_in_each_where(self):
        text = "rows t | where has t a b ( yes ) | where has t a b ( yes )"
        self.assertEqual(ask_text(read_ask(text)), text)

    def test_two_pairs_and_three(self):
        for text in [
            "( ( rows t pairs rows u ) pairs rows v )", "( rows t pairs ( rows u pairs rows v ) )",
            "( ( rows t pairs rows u ) less ( rows t pairs rows u ) )", "( view v pairs ( view v pairs view v ) )",
        ]:
            ask = read_ask(text)
            self.assertEqual((count_pairs(ask, {"v": T}), ask_text(ask)), (2, text))
        for text in [
            "( ( rows t pairs rows u ) pairs ( rows v pairs rows w ) )", "( ( ( rows t pairs rows u ) pairs rows v ) pairs rows w )",
            "( rows t pairs ( rows u pairs ( rows v pairs rows w ) ) )", "( view v pairs ( view v pairs ( view v pairs view v ) ) )",
        ]:
            self.assert_no_ask(text)

    def test_long_texts(self):
        for text in [
            "( " * 2000, "( rows t pairs " * 260, "not " * 1000, "not " * 999 + "yes", "( " * 1333 + ")", ") " * 1999, "rows " * 800,
            "yes" + " and yes" * 499, "has t a b ( " * 300, "rows t" + " | seal" * 500, "| " * 2000, "yes or " * 570 + "yes", "a" * 4000,
            "not ( " * 600, "rows t | where " * 260, "rows t | where " + "( " * 1900, "," * 4000, "rows t | keep " + "a," * 1900,
        ]:
            self.assert_neither(text)


class AnythingTest(Refusing):
    def test_what_is_no_text(self):
        for thing in anything():
            if thing != "yes":
                self.assert_no_condition(thing)
            if thing != "rows t":
                self.assert_no_ask(thing)
        for thing in [["yes"], ("yes",), ["rows t"], ("rows", "t"), [["rows", "t"]], ("rows t",)]:
            self.assert_neither(thing)

    def test_of_one_another(self):
        for condition, text in CONDITIONS:
            self.assert_no_ask(text)
        for ask, text in ASKS:
            self.assert_no_condition(text)

    def test_arguments(self):
        for name, listed in {
            "condition_text": "(condition)", "ask_text": "(ask)", "read_condition": "(thing)", "read_ask": "(thing)",
        }.items():
            self.assertEqual(str(inspect.signature(getattr(texts, name))), listed)


if __name__ == "__main__":
    unittest.main()
