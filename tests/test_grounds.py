"""Point 4: columns, tables, grounds, rows and worlds; names and whole numbers of point 2."""

import unittest

from rowveil.grounds import is_ground, is_world
from tests.things import GROUND, WORLD, anything

RESERVED = (
    "rows view where keep named pairs both less count seal and or not mine empty loud yes has"
).split()


def ground_of(*columns, key=0):
    return (("t", key, columns),)


class NamesTest(unittest.TestCase):
    def told_of_name(self, name):
        """A name's place is a table's and a column's: both must tell the same."""
        as_table = is_ground(((name, 0, (("a", 1, False),)),))
        as_column = is_ground((("t", 0, ((name, 1, False),)),))
        self.assertIs(as_table, as_column)
        return as_table

    def test_names(self):
        for name in ["a", "z", "az", "abcdefgh", "zzzzzzzz", "row", "views", "open", "in", "is", "same", "below"]:
            with self.subTest(name):
                self.assertIs(self.told_of_name(name), True)

    def test_no_names(self):
        for name in [
            "", "abcdefghi", "A", "aB", "a1", "1", "a b", " a", "a ", "a_b", "a-b", "a\n", "{", "`", "@", "a" * 4000,
            None, 0, 1, True, ("a",), ["a"], (), [],
        ]:
            with self.subTest(name):
                self.assertIs(self.told_of_name(name), False)

    def test_words_are_no_names(self):
        for name in RESERVED:
            with self.subTest(name):
                self.assertIs(self.told_of_name(name), False)

    def test_words_within_names_are_let(self):
        for name in RESERVED:
            with self.subTest(name):
                self.assertIs(self.told_of_name(name + "x"), True)


class ColumnsTest(unittest.TestCase):
    def test_sizes(self):
        for size in range(-2, 13):
            with self.subTest(size):
                self.assertIs(is_ground(ground_of(("a", size, False))), 1 <= size <= 9)

    def test_size_is_a_whole_number(self):
        for size in [True, False, None, "1", (1,), [1], (), 10 ** 29]:
            with self.subTest(size):
                self.assertIs(is_ground(ground_of(("a", size, False))), False)

    def test_open_is_a_truth(self):
        for may_be_empty in [True, False]:
            self.assertIs(is_ground(ground_of(("a", 2, may_be_empty))), True)
        for may_be_empty in [0, 1, None, "", "True", (), [], (True,), 2]:
            with self.subTest(may_be_empty):
                self.assertIs(is_ground(ground_of(("a", 2, may_be_empty))), False)

    def test_a_column_is_a_tuple_of_three(self):
        for column in [("a", 2), ("a",), (), ("a", 2, False, False), ["a", 2, False], "abc", None, 5, (("a", 2, False),)]:
            with self.subTest(column):
                self.assertIs(is_ground(ground_of(column)), False)
                self.assertIs(is_ground(ground_of(("z", 2, False), column)), False)


class TablesTest(unittest.TestCase):
    def columns(self, count):
        return tuple((name, 2, False) for name in "abcdefgh"[:count])

    def test_how_many_columns(self):
        for count in range(0, 8):
            with self.subTest(count):
                self.assertIs(is_ground((("t", 0, self.columns(count)),)), 1 <= count <= 4)

    def test_columns_are_a_tuple(self):
        self.assertIs(is_ground((("t", 0, list(self.columns(2))),)), False)
        for columns in [None, "ab", 1, True, ("a", 2, False)]:
            with self.subTest(columns):
                self.assertIs(is_ground((("t", 0, columns),)), False)

    def test_keys(self):
        for count in range(1, 5):
            for key in range(-2, 7):
                with self.subTest(count=count, key=key):
                    self.assertIs(is_ground((("t", key, self.columns(count)),)), 0 <= key <= count)

    def test_a_key_is_a_whole_number(self):
        for key in [True, False, None, "1", (1,), [1], ("a",)]:
            with self.subTest(key):
                self.assertIs(is_ground((("t", key, self.columns(2)),)), False)

    def test_no_open_column_among_the_key(self):
        for place in range(3):
            columns = tuple((name, 2, at == place) for at, name in enumerate("abc"))
            for key in range(4):
                with self.subTest(place=place, key=key):
                    self.assertIs(is_ground((("t", key, columns),)), key <= place)

    def test_column_names_are_unlike(self):
        self.assertIs(is_ground(ground_of(("a", 2, False), ("a", 2, False))), False)
        self.assertIs(is_ground(ground_of(("a", 2, False), ("b", 2, False), ("a", 3, True))), False)
        self.assertIs(is_ground(ground_of(("b", 2, False), ("a", 2, False))), True)

    def test_a_column_may_have_the_name_of_its_table(self):
        self.assertIs(is_ground(ground_of(("t", 2, False))), True)

    def test_a_table_is_a_tuple_of_three(self):
        columns = self.columns(1)
        for table in [("t", 0), ("t",), (), ("t", 0, columns, columns), ["t", 0, columns], "t", None, 1, (0, "t", columns)]:
            with self.subTest(table):
                self.assertIs(is_ground((table,)), False)
                self.assertIs(is_ground((("a", 0, columns), table)), False)


class GroundsTest(unittest.TestCase):
    def tables(self, names):
        return tuple((name, 1, (("a", 2, False), ("b", 2, True))) for name in names)

    def test_how_many_tables(self):
        for count in range(0, 8):
            with self.subTest(count):
                self.assertIs(is_ground(self.tables("abcdefgh"[:count])), 1 <= count <= 4)

    def test_tables_rise_by_their_names(self):
        self.assertIs(is_ground(self.tables(["a", "aa", "ab", "b"])), True)
        for names in [["b", "a"], ["aa", "a"], ["a", "c", "b"], ["a", "b", "d", "c"], ["b", "c", "d", "a"]]:
            with self.subTest(names):
                self.assertIs(is_ground(self.tables(names)), False)

    def test_names_of_tables_are_unlike(self):
        column = ("a", 2, False)
        self.assertIs(is_ground((("t", 0, (column,)), ("t", 1, (column, ("b", 2, False))))), False)
        self.assertIs(is_ground(self.tables(["a", "b", "b"])), False)

    def test_a_ground_is_a_tuple(self):
        self.assertIs(is_ground(list(GROUND)), False)
        self.assertIs(is_ground(GROUND), True)

    def test_anything(self):
        for thing in anything():
            with self.subTest(thing):
                self.assertIs(is_ground(thing), False)
                self.assertIs(is_ground((thing,)), False)
                self.assertIs(is_ground((GROUND[0], thing)), False)

    def test_wrong_in_the_last_table_only(self):
        bad = ("w", 1, (("a", 2, True),))
        self.assertIs(is_ground(GROUND + (bad,)), False)


class WorldsTest(unittest.TestCase):
    def test_an_ordinary_world(self):
        self.assertIs(is_world(GROUND, WORLD), True)
        self.assertIs(is_world(GROUND, ((), (), ())), True)

    def test_one_tuple_for_each_table(self):
        for thing in [(), ((),), ((), ()), ((), (), (), ()), WORLD[:2], WORLD + ((),), WORLD[::-1]]:
            with self.subTest(thing):
                self.assertIs(is_world(GROUND, thing), False)

    def test_at_most_twelve_rows(self):
        ground = ground_of(("a", 9, False), ("b", 2, False))
        rows = tuple((a, b) for a in range(9) for b in range(2))
        for count in range(0, 16):
            with self.subTest(count):
                self.assertIs(is_world(ground, (rows[:count],)), count <= 12)

    def test_each_table_may_have_twelve(self):
        table = (("a", 9, False), ("b", 2, False))
        rows = tuple((a, b) for a in range(9) for b in range(2))
        ground = (("s", 0, table), ("t", 0, table))
        self.assertIs(is_world(ground, (rows[:12], rows[6:])), True)
        self.assertIs(is_world(ground, (rows[:12], rows[5:])), False)

    def test_rows_rise(self):
        for key in [0, 1, 2]:
            ground = ground_of(("a", 3, False), ("b", 3, False), key=key)
            with self.subTest(key):
                self.assertIs(is_world(ground, (((0, 2), (1, 1), (2, 0)),)), True)
                self.assertIs(is_world(ground, (((1, 1), (0, 2), (2, 0)),)), False)
                self.assertIs(is_world(ground, (((0, 2), (2, 0), (1, 1)),)), False)

    def test_no_two_of_one_key(self):
        rows = ((0, 0), (0, 1))
        columns = (("a", 3, False), ("b", 3, False))
        self.assertIs(is_world(ground_of(*columns, key=0), (rows,)), True)
        self.assertIs(is_world(ground_of(*columns, key=1), (rows,)), False)
        self.assertIs(is_world(ground_of(*columns, key=2), (rows,)), True)
        self.assertIs(is_world(ground_of(*columns, key=1), (((0, 0), (1, 1), (1, 2), (2, 0)),)), False)

    def test_no_two_alike(self):
        columns = (("a", 3, False), ("b", 3, False))
        for key in [0, 1, 2]:
            with self.subTest(key):
                self.assertIs(is_world(ground_of(*columns, key=key), (((1, 1), (1, 1)),)), False)

    def test_values_at_both_ends(self):
        for size in range(1, 10):
            for may_be_empty in [False, True]:
                ground = ground_of(("a", size, may_be_empty))
                for value in range(-3, 12):
                    with self.subTest(size=size, may_be_empty=may_be_empty, value=value):
                        least = -1 if may_be_empty else 0
                        self.assertIs(is_world(ground, (((value,),),)), least <= value < size)

    def test_each_column_has_its_own_values(self):
        ground = ground_of(("a", 2, False), ("b", 3, True))
        self.assertIs(is_world(ground, (((1, 2),),)), True)
        self.assertIs(is_world(ground, (((1, -1),),)), True)
        self.assertIs(is_world(ground, (((2, 1),),)), False)
        self.assertIs(is_world(ground, (((-1, 1),),)), False)

    def test_empty_rises_ahead_of_nought(self):
        ground = ground_of(("a", 2, True))
        self.assertIs(is_world(ground, (((-1,), (0,), (1,)),)), True)
        self.assertIs(is_world(ground, (((0,), (-1,)),)), False)

    def test_a_truth_is_no_value(self):
        ground = ground_of(("a", 2, True))
        for value in [True, False, None, "0", (0,), [0]]:
            with self.subTest(value):
                self.assertIs(is_world(ground, (((value,),),)), False)

    def test_rows_of_the_wrong_length(self):
        ground = ground_of(("a", 2, False), ("b", 2, False))
        for row in [(), (0,), (0, 0, 0), [0, 0], "00", None, 0]:
            with self.subTest(row):
                self.assertIs(is_world(ground, ((row,),)), False)

    def test_lists_in_tuples_places(self):
        ground = ground_of(("a", 2, False))
        self.assertIs(is_world(ground, (((0,),),)), True)
        for thing in [[((0,),)], ([(0,)],), (([0],),), [[[0]]]]:
            with self.subTest(thing):
                self.assertIs(is_world(ground, thing), False)

    def test_anything(self):
        ground = ground_of(("a", 2, False))
        for thing in anything():
            if thing == ((),):
                continue
            with self.subTest(thing):
                self.assertIs(is_world(ground, thing), False)
                self.assertIs(is_world(GROUND, thing), False)
                self.assertIs(is_world(ground, ((thing,),)), thing == (0,))


if __name__ == "__main__":
    unittest.main()
