"""Point 6: what a condition is."""

import unittest

from rowveil.conditions import is_condition
from tests.things import GROUND, anything

YES = ("yes",)
COLUMNS = ("a", "b", "q")


def told(thing, columns=COLUMNS):
    return is_condition(GROUND, columns, thing)


def ands(parts):
    """A condition of an odd number of parts, ands with a yes on their right."""
    condition = YES
    for step in range((parts - 1) // 2):
        condition = ("and", condition, YES)
    return condition


class WordsTest(unittest.TestCase):
    def assert_condition(self, thing, expected):
        with self.subTest(thing):
            self.assertIs(told(thing), expected)

    def test_each_word(self):
        for thing in [
            YES, ("is", "a", 3), ("below", "b", 3), ("same", "a", "b"), ("mine", "q"), ("empty", "a"), ("loud", "b"),
            ("has", "t", "q", "c", YES), ("not", YES), ("and", YES, YES), ("or", YES, YES),
        ]:
            self.assert_condition(thing, True)

    def test_each_word_with_too_few_and_too_many(self):
        for thing in [
            YES, ("is", "a", 3), ("below", "b", 3), ("same", "a", "b"), ("mine", "q"), ("empty", "a"), ("loud", "b"),
            ("has", "t", "q", "c", YES), ("not", YES), ("and", YES, YES), ("or", YES, YES),
        ]:
            self.assert_condition(thing[:-1], False)
            self.assert_condition(thing + (YES,), False)
            self.assert_condition(thing + ("a",), False)
            self.assert_condition(list(thing), False)
            self.assert_condition((list(thing),), False)
            self.assert_condition(thing[0], False)

    def test_other_words(self):
        for word in ["no", "Yes", "", "yes ", "rows", "true", None, True, 1, ("yes",), ["yes"]]:
            self.assert_condition((word,), False)
            self.assert_condition((word, "a"), False)
            self.assert_condition((word, "a", 1), False)
            self.assert_condition((word, YES, YES), False)

    def test_values_of_is(self):
        for value in range(-3, 14):
            self.assert_condition(("is", "a", value), 0 <= value <= 9)

    def test_values_of_below(self):
        for value in range(-3, 14):
            self.assert_condition(("below", "a", value), 0 <= value <= 10)

    def test_values_are_whole_numbers(self):
        for word in ["is", "below"]:
            for value in [True, False, None, "1", (1,), [1], "a", 10 ** 29]:
                self.assert_condition((word, "a", value), False)

    def test_columns_that_are_not_there(self):
        for column in ["c", "d", "t", "aa", "", None, 0, True, ("a",), ["a"], ()]:
            for thing in [
                ("is", column, 1), ("below", column, 1), ("same", column, "a"), ("same", "a", column),
                ("mine", column), ("empty", column), ("loud", column), ("has", "t", column, "c", YES),
            ]:
                self.assert_condition(thing, False)

    def test_columns_are_those_handed_in(self):
        self.assertIs(told(("is", "zz", 1), ("zz",)), True)
        self.assertIs(told(("is", "a", 1), ("zz",)), False)
        self.assertIs(told(("is", "a", 1), ()), False)
        self.assertIs(told(YES, ()), True)

    def test_a_column_may_be_the_same_as_itself(self):
        self.assert_condition(("same", "a", "a"), True)

    def test_parts_that_are_no_conditions(self):
        for part in [None, True, "yes", ("is", "zz", 1), ("yes", 1), ["yes"], (), ("is", "a", 10)]:
            for thing in [
                ("not", part), ("and", part, YES), ("and", YES, part), ("or", part, YES), ("or", YES, part),
                ("has", "t", "a", "a", part), ("not", ("not", part)), ("and", YES, ("or", YES, ("not", part))),
            ]:
                self.assert_condition(thing, False)

    def test_anything(self):
        for thing in anything():
            self.assert_condition(thing, False)


class HasTest(unittest.TestCase):
    def assert_condition(self, thing, expected):
        with self.subTest(thing):
            self.assertIs(told(thing), expected)

    def test_tables_of_the_ground_only(self):
        self.assert_condition(("has", "u", "a", "d", YES), True)
        for table in ["w", "a", "", None, 0, True, ("t",), ["t"], GROUND[0]]:
            self.assert_condition(("has", table, "a", "a", YES), False)

    def test_the_other_column_is_one_there(self):
        self.assert_condition(("has", "v", "a", "e", YES), True)
        for other in ["a", "b", "q", "d", "v", "", None, 0, ("e",)]:
            self.assert_condition(("has", "v", "a", other, YES), False)

    def test_the_column_is_one_here(self):
        self.assert_condition(("has", "v", "q", "f", YES), True)
        for column in ["e", "f", "c"]:
            self.assert_condition(("has", "v", column, "f", YES), False)

    def test_the_condition_is_over_the_columns_there(self):
        self.assert_condition(("has", "v", "a", "e", ("is", "f", 1)), True)
        self.assert_condition(("has", "v", "a", "e", ("same", "e", "f")), True)
        for condition in [("is", "a", 1), ("is", "q", 1), ("same", "e", "a"), ("mine", "b"), ("loud", "a")]:
            self.assert_condition(("has", "v", "a", "e", condition), False)

    def test_columns_of_has_are_gone_behind_it(self):
        has = ("has", "v", "a", "e", ("is", "f", 1))
        self.assert_condition(("and", has, ("is", "q", 1)), True)
        self.assert_condition(("and", has, ("is", "f", 1)), False)

    def test_not_and_or_within_has(self):
        inner = ("not", ("or", ("is", "c", 1), ("and", ("empty", "b"), ("mine", "a"))))
        self.assert_condition(("has", "t", "q", "c", inner), True)

    def test_no_has_within_a_has(self):
        inner = ("has", "t", "a", "a", YES)
        self.assert_condition(("has", "u", "a", "a", inner), False)
        self.assert_condition(("has", "u", "a", "a", ("not", inner)), False)
        self.assert_condition(("has", "u", "a", "a", ("and", YES, inner)), False)
        self.assert_condition(("has", "u", "a", "a", ("and", inner, YES)), False)
        self.assert_condition(("has", "u", "a", "a", ("or", YES, ("not", ("not", inner)))), False)
        self.assert_condition(("not", ("has", "u", "a", "a", inner)), False)

    def test_has_beside_a_has(self):
        has = ("has", "t", "a", "a", YES)
        self.assert_condition(("and", has, has), True)
        self.assert_condition(("or", ("not", has), ("and", has, YES)), True)


class PartsTest(unittest.TestCase):
    def test_at_most_eight(self):
        for parts in range(1, 20, 2):
            with self.subTest(parts):
                self.assertIs(told(ands(parts)), parts <= 8)
                self.assertIs(told(("not", ands(parts))), parts + 1 <= 8)

    def test_conditions_within_has_count(self):
        for parts in range(1, 12, 2):
            with self.subTest(parts):
                self.assertIs(told(("has", "t", "a", "a", ands(parts))), parts + 1 <= 8)
                self.assertIs(told(("not", ("has", "t", "a", "a", ands(parts)))), parts + 2 <= 8)

    def test_nots(self):
        condition = YES
        for parts in range(1, 40):
            with self.subTest(parts):
                self.assertIs(told(condition), parts <= 8)
            condition = ("not", condition)

    def test_both_sides_count(self):
        four = ("not", ("and", YES, YES))
        self.assertIs(told(("or", four, ands(3))), True)
        self.assertIs(told(("or", four, four)), False)
        self.assertIs(told(("or", ands(3), four)), True)

    def test_a_part_that_stands_often(self):
        condition = YES
        for step in range(39):
            condition = ("and", condition, condition)
        self.assertIs(told(condition), False)


if __name__ == "__main__":
    unittest.main()
