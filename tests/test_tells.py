"""Point 7: what a condition tells of a row."""

import inspect
import unittest

from rowveil.conditions import tells
from tests.things import GROUND, WORLD

YES = ("yes",)
# Over the one column a, whose value is 1 or empty: a condition for each of True, False and None.
TOLD = {True: ("is", "a", 1), False: ("is", "a", 2), None: ("is", "b", 1)}
COLUMNS = ("a", "b")
ROW = (1, -1)


def told(condition, row=ROW, columns=COLUMNS, world=WORLD):
    return tells(GROUND, world, columns, row, condition)


class WordsTest(unittest.TestCase):
    def test_yes(self):
        self.assertIs(told(YES), True)
        self.assertIs(told(YES, (-1, -1)), True)
        self.assertIs(told(YES, (), ()), True)

    def test_is(self):
        for value in range(-1, 10):
            for number in range(0, 10):
                with self.subTest(value=value, number=number):
                    expected = None if value == -1 else value == number
                    self.assertIs(told(("is", "b", number), (0, value)), expected)

    def test_below(self):
        for value in range(-1, 10):
            for number in range(0, 11):
                with self.subTest(value=value, number=number):
                    expected = None if value == -1 else value < number
                    self.assertIs(told(("below", "b", number), (0, value)), expected)

    def test_same(self):
        for value in range(-1, 10):
            for other in range(-1, 10):
                with self.subTest(value=value, other=other):
                    expected = None if -1 in (value, other) else value == other
                    self.assertIs(told(("same", "a", "b"), (value, other)), expected)
                    self.assertIs(told(("same", "b", "a"), (value, other)), expected)

    def test_same_of_one_column(self):
        self.assertIs(told(("same", "a", "a"), (3, -1)), True)
        self.assertIs(told(("same", "b", "b"), (3, -1)), None)

    def test_empty(self):
        for value in range(-1, 10):
            with self.subTest(value):
                self.assertIs(told(("empty", "b"), (0, value)), value == -1)

    def test_loud(self):
        for value in range(-1, 10):
            self.assertIs(told(("loud", "b"), (0, value)), True)

    def test_mine(self):
        for value in range(-1, 10):
            for user in range(0, 9):
                with self.subTest(value=value, user=user):
                    expected = None if value == -1 else value == user
                    self.assertIs(tells(GROUND, WORLD, ("a",), (value,), ("mine", "a"), user=user), expected)

    def test_mine_with_the_user_left_out(self):
        self.assertIs(told(("mine", "a"), (0, 0)), True)
        self.assertIs(told(("mine", "a"), (1, 0)), False)
        self.assertIs(told(("mine", "a"), (-1, 0)), None)

    def test_the_user_goes_by_its_name(self):
        parameter = inspect.signature(tells).parameters["user"]
        self.assertEqual((parameter.kind, parameter.default), (inspect.Parameter.KEYWORD_ONLY, 0))

    def test_the_column_that_is_named(self):
        columns = ("c", "zz", "a", "q")
        for place, column in enumerate(columns):
            row = tuple(5 if at == place else 6 for at in range(4))
            with self.subTest(column):
                self.assertIs(told(("is", column, 5), row, columns), True)
                self.assertIs(told(("is", column, 6), row, columns), False)


class JoinedTest(unittest.TestCase):
    def test_what_stands_for_each(self):
        for expected, condition in TOLD.items():
            self.assertIs(told(condition), expected)

    def test_not(self):
        for left, expected in [(True, False), (False, True), (None, None)]:
            self.assertIs(told(("not", TOLD[left])), expected)

    def test_and_in_all_nine_cases(self):
        for left, right, expected in [
            (True, True, True), (True, False, False), (True, None, None),
            (False, True, False), (False, False, False), (False, None, False),
            (None, True, None), (None, False, None), (None, None, None),
        ]:
            with self.subTest(left=left, right=right):
                self.assertIs(told(("and", TOLD[left], TOLD[right])), expected)

    def test_or_in_all_nine_cases(self):
        for left, right, expected in [
            (True, True, True), (True, False, True), (True, None, True),
            (False, True, True), (False, False, False), (False, None, None),
            (None, True, True), (None, False, None), (None, None, None),
        ]:
            with self.subTest(left=left, right=right):
                self.assertIs(told(("or", TOLD[left], TOLD[right])), expected)

    def test_within_one_another(self):
        unknown, right = TOLD[None], TOLD[True]
        self.assertIs(told(("not", ("and", unknown, TOLD[False]))), None)
        self.assertIs(told(("and", ("or", unknown, right), ("not", TOLD[False]))), True)
        self.assertIs(told(("or", ("not", unknown), ("not", right))), None)


class HasTest(unittest.TestCase):
    def has(self, table, value, other, condition=YES, world=WORLD, **more):
        return tells(GROUND, world, ("q",), (value,), ("has", table, "q", other, condition), **more)

    def test_rows_that_fit_and_that_do_not(self):
        for value in range(-1, 10):
            with self.subTest(value):
                self.assertIs(self.has("t", value, "a"), value in (0, 1, 2, 5, 8))
                self.assertIs(self.has("u", value, "d"), value in (0, 1, 2))
                self.assertIs(self.has("v", value, "e"), value in (0, 2))

    def test_an_empty_value_fits_nothing(self):
        self.assertIs(self.has("t", -1, "b"), False)
        self.assertIs(self.has("v", -1, "e"), False)
        self.assertIs(self.has("t", -1, "a"), False)

    def test_the_condition_tells_true(self):
        self.assertIs(self.has("t", 1, "b", ("is", "a", 2)), True)
        self.assertIs(self.has("t", 1, "b", ("is", "a", 5)), True)
        self.assertIs(self.has("t", 1, "b", ("is", "a", 8)), False)
        self.assertIs(self.has("t", 3, "b", ("is", "c", 2)), True)

    def test_false_and_none_of_all_rows_make_false(self):
        # Of the rows with b 1 one has c empty, the other one 1.
        self.assertIs(self.has("t", 1, "b", ("is", "c", 2)), False)
        self.assertIs(self.has("t", 2, "a", ("is", "c", 2)), False)
        self.assertIs(self.has("t", 2, "a", ("not", ("is", "c", 2))), False)
        self.assertIs(self.has("t", 1, "b", ("not", ("is", "c", 2))), True)

    def test_no_rows(self):
        self.assertIs(self.has("t", 1, "b", world=((), (), ())), False)

    def test_not_of_has(self):
        condition = ("not", ("has", "t", "q", "a", YES))
        self.assertIs(tells(GROUND, WORLD, ("q",), (3,), condition), True)
        self.assertIs(tells(GROUND, WORLD, ("q",), (-1,), condition), True)
        self.assertIs(tells(GROUND, WORLD, ("q",), (5,), condition), False)

    def test_columns_of_one_name_here_and_there(self):
        condition = ("has", "t", "a", "b", ("is", "a", 5))
        self.assertIs(tells(GROUND, WORLD, ("z", "a"), (9, 1), condition), True)
        self.assertIs(tells(GROUND, WORLD, ("z", "a"), (1, 5), condition), False)

    def test_two_has_of_unlike_conditions(self):
        for left, right in [(2, 9), (9, 2)]:
            condition = ("or", ("has", "t", "q", "b", ("is", "a", left)), ("has", "t", "q", "b", ("is", "a", right)))
            self.assertIs(tells(GROUND, WORLD, ("q",), (1,), condition), True)

    def test_mine_within_has(self):
        self.assertIs(self.has("t", 1, "b", ("mine", "a"), user=5), True)
        self.assertIs(self.has("t", 1, "b", ("mine", "a"), user=8), False)
        self.assertIs(self.has("t", 0, "b", ("mine", "c")), True)

    def test_a_value_beyond_the_column_there(self):
        self.assertIs(self.has("u", 9, "a"), False)


if __name__ == "__main__":
    unittest.main()
