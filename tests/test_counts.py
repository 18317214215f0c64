import itertools
import math
import unittest

from helper import FAR, NO_NUMBERS, NO_ROWS, VAST, all_places, refused, rows_up_to
from leftin.counts import kin, least, ways
from leftin.errors import BadMany, BadRow


def all_kin(row):
    return {signs for many in range(len(row) + 1) for signs in itertools.combinations(row, many)}


# Each sign in turn is the least one that leaves enough behind it, the first one if there are several.
def least_by_turns(row, many):
    told, start = [], 0
    for rest in range(many - 1, -1, -1):
        sign = min(row[start:len(row) - rest])
        start = row.index(sign, start) + 1
        told.append(sign)
    return told


class WaysTest(unittest.TestCase):
    def test_ordinary(self):
        self.assertEqual(ways([1, 2, 1, 2], [1, 2]), 3)
        self.assertEqual(ways([1, 2, 1, 2], [2, 2, 2]), 0)
        self.assertEqual(ways([1, 1, 1], [1]), 3)

    def test_edges(self):
        self.assertEqual(ways([], []), 1)
        self.assertEqual(ways([1, 2], []), 1)
        self.assertEqual(ways([], [1]), 0)
        self.assertEqual(ways([1], [1, 1]), 0)
        self.assertEqual(ways([VAST, -VAST, VAST], [VAST]), 2)
        self.assertEqual(ways([VAST, -VAST, VAST], [VAST, -VAST, VAST]), 1)
        self.assertEqual(ways([FAR, FAR + 1], [FAR - 1]), 0)

    def test_more_than_a_machine_counts(self):
        self.assertEqual(ways([5] * 200, [5] * 100), math.comb(200, 100))
        self.assertEqual(ways([5] * 300, [5] * 299), 300)

    def test_all_small_rows(self):
        for row in rows_up_to(6, 2):
            for other in rows_up_to(4, 2) + [[2], [0, 2], [2, 0]]:
                self.assertEqual(ways(row, other), len(all_places(row, other)), (row, other))

    def test_is_a_number(self):
        for row, other in (([], []), ([1], [1]), ([1], [2])):
            self.assertIs(ways(row, other).__class__, int)


class KinTest(unittest.TestCase):
    def test_ordinary(self):
        self.assertEqual(kin([1, 2, 1]), 7)
        self.assertEqual(kin([1, 1, 1]), 4)

    def test_edges(self):
        self.assertEqual(kin([]), 1)
        self.assertEqual(kin([VAST]), 2)
        self.assertEqual(kin([VAST, -VAST]), 4)
        self.assertEqual(kin([FAR, FAR + 1, FAR]), 7)

    def test_more_than_a_machine_counts(self):
        self.assertEqual(kin(list(range(-150, 150))), 2 ** 300)
        self.assertEqual(kin([5] * 2000), 2001)

    def test_all_small_rows(self):
        for row in rows_up_to(7, 2) + rows_up_to(5, 3):
            self.assertEqual(kin(row), len(all_kin(row)), row)

    def test_is_a_number(self):
        self.assertIs(kin([]).__class__, int)


class LeastTest(unittest.TestCase):
    def test_ordinary(self):
        self.assertEqual(least([3, 1, 2, 1, 3], 2), [1, 1])
        self.assertEqual(least([3, 1, 2, 1, 3], 3), [1, 1, 3])
        self.assertEqual(least([3, 1, 2, 1, 3], 4), [1, 2, 1, 3])
        self.assertEqual(least([1, 2, 3], 2), [1, 2])

    def test_counts_of_none_and_of_all(self):
        for row in ([], [1], [3, 1, 2], [VAST, -VAST]):
            self.assertEqual(least(row, 0), [])
            self.assertTrue(least(row, len(row)) == row)

    def test_signs_of_any_size_on_both_sides_of_0(self):
        self.assertEqual(least([FAR, -FAR, 0, -FAR - 1], 2), [-FAR, -FAR - 1])
        self.assertEqual(least([FAR, -FAR, 0, -FAR - 1], 1), [-FAR - 1])
        self.assertTrue(least([VAST, -VAST, VAST], 2) == [-VAST, VAST])
        self.assertEqual(least([0, -1, 1], 1), [-1])

    def test_all_small_rows(self):
        for row in rows_up_to(6, 3):
            for many in range(len(row) + 1):
                right = min(list(signs) for signs in itertools.combinations(row, many))
                self.assertEqual(least(row, many), right, (row, many))

    def test_long_rows(self):
        row = [turn * turn * 7 % 101 - 50 for turn in range(1500)]
        for many in (1, 2, 40, 700, 1498, 1499, 1500):
            self.assertEqual(least(row, many), least_by_turns(row, many), many)
        self.assertEqual(least(list(range(1500, 0, -1)), 700), list(range(700, 0, -1)))

    def test_is_a_list(self):
        self.assertIs(least([1], 0).__class__, list)
        self.assertIs(least([1], 1).__class__, list)


class KeptTest(unittest.TestCase):
    def test_nothing_handed_in_is_changed(self):
        row, other = [3, 1, 2, 1, 3], [1, 3]
        ways(row, other)
        ways(row, row)
        kin(row)
        least(row, 2)
        least(row, 5)
        self.assertEqual((row, other), ([3, 1, 2, 1, 3], [1, 3]))

    def test_what_is_told_is_new(self):
        for row in ([], [1, 2, 3]):
            before = list(row)
            told = least(row, len(row))
            self.assertIsNot(told, row)
            told.append(9)
            self.assertEqual(row, before)
            self.assertEqual(least(row, len(row)), before)

    def test_by_its_arguments_names(self):
        self.assertEqual(ways(other=[1], row=[1, 1]), 2)
        self.assertEqual(kin(row=[1, 1]), 3)
        self.assertEqual(least(many=1, row=[2, 1]), [1])


class RefusalTest(unittest.TestCase):
    def test_no_row_in_the_place_of_one(self):
        for value in NO_ROWS:
            for given in ((value, [1]), ([1], value), (value, []), ([], value), (value, value)):
                refused(self, BadRow, ways, given)
            refused(self, BadRow, kin, (value,))
            refused(self, BadRow, least, (value, 0))

    def test_no_count(self):
        for row in ([], [1], [3, 1, 2], [VAST]):
            for many in NO_NUMBERS + [-1, -FAR, -VAST, len(row) + 1, FAR, VAST]:
                refused(self, BadMany, least, (row, many))

    def test_no_row_ahead_of_no_count(self):
        for value in NO_ROWS:
            for many in NO_NUMBERS + [-1, FAR]:
                refused(self, BadRow, least, (value, many))


if __name__ == "__main__":
    unittest.main()
