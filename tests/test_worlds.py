"""Point 5: all worlds, and how many there are."""

import inspect
import itertools
import math
import unittest

from rowveil.errors import TooMany
from rowveil.grounds import MOST_ROWS, all_worlds, count_worlds, is_world


def possible(table):
    """All rows that a table may have, by hand."""
    return list(itertools.product(*[range(-1 if may else 0, size) for name, size, may in table[2]]))


def slow_worlds(ground):
    """All worlds, by going through all choices of rows."""
    choices = []
    for table in ground:
        rows = possible(table)
        choices.append([c for k in range(len(rows) + 1) for c in itertools.combinations(rows, k)])
    return sorted(w for w in itertools.product(*choices) if is_world(ground, w))


# Grounds of which all worlds can be gone through.
SMALL = [
    (("t", 0, (("a", 1, False),)),),
    (("t", 1, (("a", 1, False),)),),
    (("t", 0, (("a", 1, True),)),),
    (("t", 0, (("a", 2, False), ("b", 2, False))),),
    (("t", 1, (("a", 2, False), ("b", 2, False))),),
    (("t", 2, (("a", 2, False), ("b", 2, False))),),
    (("t", 1, (("a", 2, False), ("b", 1, True))),),
    (("t", 1, (("a", 1, False), ("b", 3, True))),),
    (("t", 0, (("a", 7, True),)),),
    (("t", 1, (("a", 8, False),)),),
    (("t", 1, (("a", 2, False), ("b", 2, False), ("c", 2, False))),),
    (("t", 2, (("a", 2, False), ("b", 2, False), ("c", 1, True))),),
    (("s", 0, (("a", 2, False),)), ("t", 1, (("a", 2, False), ("b", 1, True)))),
    (("s", 1, (("a", 2, False), ("b", 2, False))), ("t", 0, (("c", 3, True),))),
    (("r", 0, (("a", 1, False),)), ("s", 1, (("a", 2, False),)), ("t", 0, (("a", 1, True),)),
     ("u", 1, (("a", 1, False), ("b", 2, False)))),
]


class AllWorldsTest(unittest.TestCase):
    def test_the_bound(self):
        self.assertEqual(MOST_ROWS, 8)

    def test_one_possible_row(self):
        self.assertEqual(all_worlds((("t", 0, (("a", 1, False),)),)), [((),), (((0,),),)])

    def test_an_open_column(self):
        self.assertEqual(
            all_worlds((("t", 0, (("a", 1, True),)),)),
            [((),), (((-1,),),), (((-1,), (0,)),), (((0,),),)],
        )

    def test_a_key_bars_two(self):
        ground = (("t", 1, (("a", 2, False), ("b", 2, False))),)
        self.assertEqual(all_worlds(ground), [
            ((),),
            (((0, 0),),), (((0, 0), (1, 0)),), (((0, 0), (1, 1)),),
            (((0, 1),),), (((0, 1), (1, 0)),), (((0, 1), (1, 1)),),
            (((1, 0),),), (((1, 1),),),
        ])

    def test_two_tables(self):
        ground = (("s", 0, (("a", 1, False),)), ("t", 0, (("a", 2, False),)))
        one, two = ((0,),), ((0,), (1,))
        self.assertEqual(all_worlds(ground), [
            ((), ()), ((), one), ((), two), ((), ((1,),)),
            (one, ()), (one, one), (one, two), (one, ((1,),)),
        ])

    def test_against_going_through_all(self):
        for ground in SMALL:
            with self.subTest(ground):
                worlds = all_worlds(ground)
                self.assertIsInstance(worlds, list)
                self.assertEqual(worlds, slow_worlds(ground))
                self.assertEqual(len(worlds), count_worlds(ground))

    def test_most_at_the_bound_and_beyond(self):
        for ground in SMALL:
            rows = sum(len(possible(table)) for table in ground)
            for most in range(0, 9):
                with self.subTest(ground=ground, most=most):
                    if rows <= most:
                        self.assertEqual(all_worlds(ground, most=most), all_worlds(ground))
                    else:
                        with self.assertRaises(TooMany):
                            all_worlds(ground, most=most)

    def test_most_left_out(self):
        self.assertEqual(len(all_worlds((("t", 0, (("a", 8, False),)),))), 256)
        for ground in [
            (("t", 0, (("a", 9, False),)),),
            (("t", 0, (("a", 8, True),)),),
            (("t", 1, (("a", 3, False), ("b", 3, False))),),
            (("s", 0, (("a", 8, False),)), ("t", 0, (("a", 1, False),))),
            (("t", 0, tuple((name, 9, True) for name in "abcd")),),
        ]:
            with self.subTest(ground):
                with self.assertRaises(TooMany):
                    all_worlds(ground)

    def test_all_tables_together(self):
        ground = (("s", 0, (("a", 4, False),)), ("t", 0, (("a", 4, False),)))
        self.assertEqual(len(all_worlds(ground, most=8)), 256)
        with self.assertRaises(TooMany):
            all_worlds(ground, most=7)

    def test_rows_that_a_key_bars_from_one_another_count_too(self):
        ground = (("t", 1, (("a", 1, False), ("b", 5, False))),)
        self.assertEqual(len(all_worlds(ground, most=5)), 6)
        with self.assertRaises(TooMany):
            all_worlds(ground, most=4)

    def test_no_table_has_more_than_twelve_rows(self):
        ground = (("t", 0, (("a", 7, False), ("b", 2, False))),)
        worlds = all_worlds(ground, most=14)
        self.assertEqual(len(worlds), count_worlds(ground))
        self.assertEqual(max(len(rows) for rows, in worlds), 12)

    def test_most_goes_by_its_name(self):
        parameter = inspect.signature(all_worlds).parameters["most"]
        self.assertEqual((parameter.kind, parameter.default), (inspect.Parameter.KEYWORD_ONLY, 8))


class CountWorldsTest(unittest.TestCase):
    def at_most_twelve(self, keys, rows_of_key=1):
        return sum(math.comb(keys, k) * rows_of_key ** k for k in range(13))

    def test_small_ones_by_hand(self):
        self.assertEqual(count_worlds((("t", 0, (("a", 1, False),)),)), 2)
        self.assertEqual(count_worlds((("t", 1, (("a", 2, False), ("b", 1, True))),)), 9)
        self.assertEqual(count_worlds((("t", 1, (("a", 3, False), ("b", 2, True))),)), 64)
        self.assertEqual(count_worlds((("s", 0, (("a", 2, False),)), ("t", 0, (("a", 2, True),)))), 32)

    def test_nine_possible_rows(self):
        self.assertEqual(count_worlds((("t", 0, (("a", 9, False),)),)), 512)
        self.assertEqual(count_worlds((("t", 0, (("a", 9, True),)),)), 1024)

    def test_twelve_and_more_possible_rows(self):
        for size in range(3, 10):
            ground = (("t", 0, (("a", size, False), ("b", 4, False))),)
            with self.subTest(size):
                self.assertEqual(count_worlds(ground), self.at_most_twelve(size * 4))
        self.assertEqual(count_worlds((("t", 0, (("a", 6, False), ("b", 2, False))),)), 4096)
        # Of thirteen keys' worth of rows, no table has all.
        self.assertEqual(count_worlds((("t", 0, (("a", 7, False), ("b", 2, False))),)), 2 ** 14 - 14 - 1)

    def test_keys_of_large_tables(self):
        columns = (("a", 9, False), ("b", 9, False), ("c", 9, True), ("d", 9, True))
        self.assertEqual(count_worlds((("t", 0, columns),)), self.at_most_twelve(8100))
        self.assertEqual(count_worlds((("t", 1, columns),)), self.at_most_twelve(9, 900))
        self.assertEqual(count_worlds((("t", 2, columns),)), self.at_most_twelve(81, 100))

    def test_the_largest_ground(self):
        columns = tuple((name, 9, True) for name in "abcd")
        ground = tuple((name, 0, columns) for name in "rstu")
        self.assertEqual(count_worlds(ground), self.at_most_twelve(10000) ** 4)
        closed = tuple((name, 9, False) for name in "abcd")
        self.assertEqual(count_worlds((("t", 4, closed),)), self.at_most_twelve(6561))
        self.assertEqual(count_worlds((("t", 3, closed),)), self.at_most_twelve(729, 9))


if __name__ == "__main__":
    unittest.main()
