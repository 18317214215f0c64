import itertools
import unittest

from helper import FAR, NO_NUMBERS, NO_ROWS, VAST, all_places, rows_up_to
from leftin.errors import BadRow
from leftin.rows import are_places, checked_row, earliest_places, is_count, is_left, is_row, is_whole, signs_at
from leftin.rows import stands_at

GOOD_ROWS = [
    [],
    [0],
    [7],
    [-1],
    [-FAR, FAR],
    [2 ** 64, -(2 ** 64), 2 ** 64 + 1],
    [VAST, -VAST],
    [5] * 1000,
    [3, 1, 2, 1, 3],
]


class WholeTest(unittest.TestCase):
    def test_whole_numbers(self):
        for value in (0, 1, -1, 2 ** 64, -(2 ** 64), FAR, -FAR, VAST, -VAST):
            self.assertIs(is_whole(value), True)

    def test_no_whole_numbers(self):
        for value in NO_NUMBERS:
            with self.subTest(value=repr(value)):
                self.assertIs(is_whole(value), False)


class CountTest(unittest.TestCase):
    def test_counts(self):
        for value, most in ((0, 0), (0, 3), (2, 3), (3, 3), (FAR, FAR), (FAR, VAST), (0, VAST)):
            self.assertIs(is_count(value, most), True)

    def test_no_counts(self):
        for value, most in ((-1, 0), (1, 0), (-1, 3), (4, 3), (FAR + 1, FAR), (-FAR, FAR), (VAST, FAR), (0, -1)):
            self.assertIs(is_count(value, most), False)
        for value in NO_NUMBERS:
            self.assertIs(is_count(value, 3), False)


class RowTest(unittest.TestCase):
    def test_rows(self):
        for row in GOOD_ROWS:
            self.assertIs(is_row(row), True)
            self.assertTrue(checked_row(row) == row)

    def refused(self, value):
        self.assertIs(is_row(value), False)
        with self.assertRaises(BadRow) as caught:
            checked_row(value)
        self.assertIs(caught.exception.__class__, BadRow)

    def test_no_rows(self):
        for number, value in enumerate(NO_ROWS):
            with self.subTest(number=number):
                self.refused(value)

    def test_what_is_refused_is_not_walked(self):
        walked = iter([1, 2, 3])
        self.refused(walked)
        self.assertEqual(list(walked), [1, 2, 3])

    def test_what_is_refused_is_not_changed(self):
        row = [1, None, True]
        self.refused(row)
        self.assertEqual(repr(row), "[1, None, True]")

    def test_the_row_told_is_new(self):
        given = [1, 2, 3]
        told = checked_row(given)
        self.assertIsNot(told, given)
        told.append(4)
        self.assertEqual(given, [1, 2, 3])
        given[0] = 9
        self.assertEqual(told, [1, 2, 3, 4])

    def test_the_row_of_none_told_is_new(self):
        given = []
        checked_row(given).append(1)
        self.assertEqual(given, [])
        self.assertEqual(checked_row(given), [])


class PlacesTest(unittest.TestCase):
    def test_rising_places(self):
        for places in ([], [0], [2], [0, 1, 2], [0, 2]):
            with self.subTest(places=places):
                self.assertIs(are_places(places, 3), True)

    def test_no_places(self):
        wrong = [[3], [-1], [0, 3], [-1, 0], [0, 0], [1, 1], [2, 1], [0, 2, 1], [0, 1, 1], [FAR], [-FAR], [0, VAST]]
        for number, places in enumerate(wrong):
            with self.subTest(number=number):
                self.assertIs(are_places(places, 3), False)

    def test_no_list_of_numbers(self):
        for places in (None, 0, (), (0,), "", {}, [True], [False, 1], [None], [0.0], ["0"], [[0]]):
            with self.subTest(places=repr(places)):
                self.assertIs(are_places(places, 3), False)

    def test_a_row_of_none_has_no_place(self):
        self.assertIs(are_places([], 0), True)
        self.assertIs(are_places([0], 0), False)
        self.assertIs(are_places([-1], 0), False)


class StandsAtTest(unittest.TestCase):
    def test_signs_at_places(self):
        self.assertEqual(signs_at([4, -1, 4, FAR], [1, 2, 3]), [-1, 4, FAR])
        self.assertEqual(signs_at([4], []), [])

    def test_stands_at_its_places(self):
        row = [4, -1, 4, FAR, 4]
        for other, places in (
            ([4], [0]), ([4], [2]), ([4], [4]), ([-1, FAR], [1, 3]), ([4, 4, 4], [0, 2, 4]), (row, [0, 1, 2, 3, 4]),
        ):
            with self.subTest(other=other, places=places):
                self.assertIs(stands_at(row, other, places), True)

    def test_one_place_less_or_more(self):
        row = [5] * 6
        for places in ([], [0], [0, 1], [0, 1, 2, 3], [0, 1, 2, 3, 4, 5]):
            with self.subTest(places=places):
                self.assertIs(stands_at(row, [5, 5, 5], places), False)

    def test_places_that_do_not_rise(self):
        row = [5, 5, 5, 5]
        for places in ([0, 0], [3, 3], [1, 0], [3, 2]):
            with self.subTest(places=places):
                self.assertIs(stands_at(row, [5, 5], places), False)
        for places in ([0, 0, 1], [0, 1, 1], [0, 2, 1], [1, 0, 2], [2, 1, 0]):
            with self.subTest(places=places):
                self.assertIs(stands_at(row, [5, 5, 5], places), False)

    def test_places_outside_the_row(self):
        row = [5, 5, 5, 5]
        for places in ([-1], [-4], [-5], [4], [5], [FAR], [-FAR]):
            with self.subTest(places=places):
                self.assertIs(stands_at(row, [5], places), False)
        for places in ([-1, 0], [-4, -3], [3, 4], [0, FAR]):
            with self.subTest(places=places):
                self.assertIs(stands_at(row, [5, 5], places), False)

    def test_a_sign_that_differs(self):
        row = [1, 2, 3]
        for other, places in (
            ([2], [0]), ([1, 3, 3], [0, 1, 2]), ([2, 2, 3], [0, 1, 2]), ([1, 2, -3], [0, 1, 2]), ([2, 1], [0, 1]),
        ):
            with self.subTest(other=other, places=places):
                self.assertIs(stands_at(row, other, places), False)

    def test_signs_far_apart_by_one(self):
        self.assertIs(stands_at([FAR], [FAR], [0]), True)
        self.assertIs(stands_at([FAR], [FAR + 1], [0]), False)
        self.assertIs(stands_at([VAST], [-VAST], [0]), False)

    def test_a_row_of_none(self):
        for number, row in enumerate(GOOD_ROWS):
            with self.subTest(number=number):
                self.assertIs(stands_at(row, [], []), True)
                for places in ([0], [-1], [len(row)], [0, 1]):
                    self.assertIs(stands_at(row, [], places), False)

    def test_nothing_but_a_row_of_none_stands_in_one(self):
        for places in ([], [0], [-1]):
            with self.subTest(places=places):
                self.assertIs(stands_at([], [1], places), False)

    def test_all_small_rows_at_all_small_places(self):
        lists = [list(places) for many in range(4) for places in itertools.product(range(-2, 5), repeat=many)]
        for row in rows_up_to(3, 2):
            for other in rows_up_to(3, 2):
                right = all_places(row, other)
                found = [places for places in lists if stands_at(row, other, places)]
                self.assertEqual(found, right, (row, other))

    def test_nothing_is_changed(self):
        row, other, places = [1, 2, 1], [1, 1], [0, 2]
        self.assertIs(stands_at(row, other, places), True)
        self.assertEqual((row, other, places), ([1, 2, 1], [1, 1], [0, 2]))
        self.assertIs(stands_at(row, row, [0, 1, 2]), True)
        self.assertEqual(row, [1, 2, 1])


class LeftTest(unittest.TestCase):
    def test_ordinary(self):
        self.assertEqual(earliest_places([3, 1, 2, 1, 3], [1, 3]), [1, 4])
        self.assertIs(is_left([3, 1, 2, 1, 3], [1, 3]), True)
        self.assertIs(is_left([3, 1, 2, 1, 3], [2, 2]), False)

    def test_edges(self):
        self.assertIs(is_left([], []), True)
        self.assertIs(is_left([], [0]), False)
        self.assertIs(is_left([0], []), True)
        self.assertIs(is_left([5] * 1000, [5] * 1000), True)
        self.assertIs(is_left([5] * 1000, [5] * 1001), False)
        self.assertIs(is_left([VAST, -VAST], [-VAST]), True)
        self.assertIs(is_left([VAST, -VAST], [-VAST, VAST]), False)

    def test_all_small_rows(self):
        for row in rows_up_to(5, 2):
            for other in rows_up_to(4, 3):
                self.assertIs(is_left(row, other), all_places(row, other) != [], (row, other))

    def test_the_earliest_places_of_the_most_first_signs(self):
        for row in rows_up_to(5, 2):
            for other in rows_up_to(4, 3):
                most = max(many for many in range(len(other) + 1) if all_places(row, other[:many]))
                # Combinations come in the order of lists, so the first is the earliest.
                self.assertEqual(earliest_places(row, other), all_places(row, other[:most])[0], (row, other))

    def test_nothing_is_changed_and_what_is_told_is_new(self):
        row, other = [1, 2, 1], [1, 1]
        told = earliest_places(row, other)
        self.assertEqual((row, other), ([1, 2, 1], [1, 1]))
        told.append(7)
        self.assertEqual((row, other), ([1, 2, 1], [1, 1]))
        self.assertEqual(earliest_places(row, other), [0, 2])
        again = earliest_places(row, other)
        row.clear()
        other.clear()
        self.assertEqual(again, [0, 2])

    def test_a_row_and_itself(self):
        row = [1, 2, 3]
        self.assertEqual(earliest_places(row, row), [0, 1, 2])
        self.assertIs(is_left(row, row), True)
        self.assertEqual(row, [1, 2, 3])


if __name__ == "__main__":
    unittest.main()
