import itertools
import unittest

from helper import FAR, VAST, lists_up_to, look_both, look_left, look_longest, look_missing, look_mixed, look_short
from helper import look_table, look_unmixed, rows_up_to
from leftin.answers import Answer, Both, Left, Longest, Missing, Mixed, Short, Unmixed
from leftin.tables import is_table


def tables_of(one, other, low, high):
    numbers = range(low, high + 1)
    wide = len(other) + 1
    for some in itertools.product(numbers, repeat=(len(one) + 1) * wide):
        yield [list(some[start:start + wide]) for start in range(0, len(some), wide)]


def pair_sets(one, other, more):
    pairs = list(itertools.product(range(len(one) + 1), range(len(other) + 1))) + more
    for many in range(len(pairs) + 1):
        for some in itertools.combinations(pairs, many):
            yield list(some)


def splits(count):
    return [(first, count - first) for first in range(count + 1)]


class ClassTest(unittest.TestCase):
    def test_each_is_straight_under_answer(self):
        self.assertEqual(Answer.__bases__, (object,))
        for kind in (Left, Short, Longest, Both, Missing, Mixed, Unmixed):
            with self.subTest(kind=kind.__name__):
                self.assertEqual(kind.__bases__, (Answer,))

    def test_fields(self):
        table = [[0, 0], [0, 1]]
        for answer, fields in (
            (Left([1, 2]), {"places": [1, 2]}),
            (Short([1, 2]), {"places": [1, 2]}),
            (Longest([0], [1], table), {"mine": [0], "theirs": [1], "table": table}),
            (Both([5], [0], [1], table), {"row": [5], "mine": [0], "theirs": [1], "table": table}),
            (Missing([1], [2, 3]), {"cuts": [1], "word": [2, 3]}),
            (Mixed([1, 2]), {"places": [1, 2]}),
            (Unmixed([(0, 0), (1, 0)]), {"pairs": [(0, 0), (1, 0)]}),
        ):
            self.assertEqual(vars(answer), fields)

    def test_fields_by_their_names(self):
        self.assertEqual(Left(places=[1]).places, [1])
        self.assertEqual(Short(places=[1]).places, [1])
        self.assertEqual(Longest(table=[[0]], theirs=[1], mine=[2]).mine, [2])
        self.assertEqual(Both(table=[[0]], theirs=[1], mine=[2], row=[3]).row, [3])
        self.assertEqual(Missing(word=[0], cuts=[1]).cuts, [1])
        self.assertEqual(Mixed(places=[1]).places, [1])
        self.assertEqual(Unmixed(pairs=[(0, 0)]).pairs, [(0, 0)])

    def test_shows_by_its_arguments_names(self):
        self.assertIs(Left([0]).shows(other=[1], row=[1]), True)
        self.assertIs(Short([0]).shows(other=[1, 1], row=[1]), True)
        self.assertIs(Longest([], [], [[0, 0]]).shows(other=[1], one=[]), True)
        self.assertIs(Both([1], [], [0], [[0, 0]]).shows(other=[1], one=[]), True)
        self.assertIs(Missing([], [0]).shows(kinds=1, row=[1]), True)
        self.assertIs(Mixed([]).shows(other=[1], one=[], row=[1]), True)
        self.assertIs(Unmixed([(0, 0)]).shows(other=[1], one=[], row=[2]), True)


class CopyTest(unittest.TestCase):
    def test_a_list_handed_in_is_not_kept(self):
        for kind in (Left, Short, Mixed):
            given = [0, 2]
            answer = kind(given)
            given.append(3)
            self.assertEqual(answer.places, [0, 2], kind)
            answer.places.clear()
            self.assertEqual(given, [0, 2, 3], kind)

    def test_missing_keeps_neither_list(self):
        cuts, word = [1], [0, 1]
        answer = Missing(cuts, word)
        cuts.append(2)
        word.append(2)
        self.assertEqual((answer.cuts, answer.word), ([1], [0, 1]))

    def test_unmixed_does_not_keep_its_list(self):
        pairs = [(0, 0)]
        answer = Unmixed(pairs)
        pairs.append((1, 1))
        self.assertEqual(answer.pairs, [(0, 0)])

    def test_lists_within_a_table_are_not_kept(self):
        for make in (Longest, lambda mine, theirs, table: Both([5], mine, theirs, table)):
            line = [0, 0]
            table = [line, line]
            answer = make([0], [0], table)
            table.append([9])
            line[0] = 9
            self.assertEqual(answer.table, [[0, 0], [0, 0]])
            answer.table[0][0] = 4
            self.assertEqual(answer.table, [[4, 0], [0, 0]])
            self.assertEqual(table, [[9, 0], [9, 0], [9]])

    def test_places_in_both_rows_are_not_kept(self):
        for make in (Longest, lambda mine, theirs, table: Both([5], mine, theirs, table)):
            places = [0]
            answer = make(places, places, [[0]])
            places[0] = 9
            self.assertEqual((answer.mine, answer.theirs), ([0], [0]))
            answer.mine.append(7)
            answer.theirs.append(8)
            self.assertEqual((answer.mine, answer.theirs, places), ([0, 7], [0, 8], [9]))

    def test_both_does_not_keep_its_row(self):
        row = [5]
        answer = Both(row, row, row, [row])
        row[0] = 6
        self.assertEqual((answer.row, answer.mine, answer.theirs, answer.table), ([5], [5], [5], [[5]]))
        answer.row[0] = 7
        self.assertEqual((answer.row, answer.mine, answer.theirs, answer.table), ([7], [5], [5], [[5]]))

    def test_shows_changes_nothing(self):
        one, other, row, table = [1, 2], [2, 1], [1, 2, 1], [[0, 0, 0], [0, 0, 1], [0, 1, 1]]
        pairs = [(0, 0), (0, 1), (0, 0)]
        for answer, asked in (
            (Left([0, 1]), (row, one)),
            (Short([1]), (one, other)),
            (Longest([1], [0], table), (one, other)),
            (Both(row, [0, 1], [1, 2], table), (one, other)),
            (Missing([2], [2, 2]), ([0, 1, 0], 3)),
            (Mixed([0, 1]), ([1, 2, 2, 1], one, other)),
            (Unmixed(pairs), ([2, 3, 3, 3], one, other)),
        ):
            before = (repr(vars(answer)), repr(asked))
            answer.shows(*asked)
            answer.shows(*asked)
            self.assertEqual((repr(vars(answer)), repr(asked)), before)


# The document promises nothing here; that True and False are no numbers is held to all the same.
class OfAnotherKindTest(unittest.TestCase):
    def test_true_and_false_are_no_numbers(self):
        table = [[0, 0], [0, 1]]
        for answer, asked in (
            (Left([False]), ([1], [1])),
            (Short([False]), ([1], [1, 2])),
            (Longest([False], [0], table), ([5], [5])),
            (Longest([0], [False], table), ([5], [5])),
            (Longest([0], [0], [[0, False], [0, 1]]), ([5], [5])),
            (Both([True], [0], [0], table), ([1], [1])),
            (Both([1], [False], [0], table), ([1], [1])),
            (Both([1], [0], [False], table), ([1], [1])),
            (Both([1], [0], [0], [[0, 0], [0, True]]), ([1], [1])),
            (Missing([True], [0, 0]), ([0], 1)),
            (Missing([1], [0, False]), ([0], 1)),
            (Mixed([False]), ([1], [1], [])),
            (Unmixed([(0, False)]), ([1], [2], [])),
            (Unmixed([(False, 0)]), ([1], [2], [])),
        ):
            self.assertIs(answer.shows(*asked), False, vars(answer))

    def test_what_is_no_pair(self):
        for pair in ((), (0,), (0, 0, 0), [0, 0], 0, None, "00", (None, 0), (0, "0")):
            self.assertIs(Unmixed([(0, 0), pair]).shows([1], [2], []), False, pair)

    def test_rows_that_have_not_as_many_signs(self):
        for row in ([], [1], [1, 1, 1]):
            self.assertIs(Unmixed([(0, 0)]).shows(row, [2], [3]), False)
            self.assertIs(Mixed([]).shows(row, [], [1, 1]), False)
        self.assertIs(Unmixed([(0, 0)]).shows([1, 1], [2], [3]), True)
        self.assertIs(Mixed([]).shows([1, 1], [], [1, 1]), True)


class LeftTest(unittest.TestCase):
    def test_by_hand(self):
        row = [3, 1, 2, 1, 3]
        self.assertIs(Left([1, 4]).shows(row, [1, 3]), True)
        self.assertIs(Left([3, 4]).shows(row, [1, 3]), True)
        self.assertIs(Left([4, 1]).shows(row, [3, 1]), False)
        self.assertIs(Left([0, 5]).shows(row, [3, 3]), False)
        self.assertIs(Left([-1]).shows(row, [3]), False)
        self.assertIs(Left([0, 0]).shows(row, [3, 3]), False)
        self.assertIs(Left([]).shows(row, []), True)
        self.assertIs(Left([]).shows([], []), True)
        self.assertIs(Left([0]).shows([], []), False)
        self.assertIs(Left([1]).shows([FAR, -FAR, VAST], [-FAR]), True)
        self.assertIs(Left([1]).shows([FAR, -FAR, VAST], [FAR]), False)

    def test_all_small_ones(self):
        lists = lists_up_to(3, -2, 3)
        for row in rows_up_to(3, 2):
            for other in rows_up_to(3, 2):
                for places in lists:
                    told = Left(places).shows(row, other)
                    self.assertIs(told, look_left(places, row, other), (places, row, other))

    def test_by_the_fields_as_they_stand(self):
        answer = Left([0])
        self.assertIs(answer.shows([1, 2], [1]), True)
        answer.places.append(1)
        self.assertIs(answer.shows([1, 2], [1]), False)
        self.assertIs(answer.shows([1, 2], [1, 2]), True)
        answer.places = [1]
        self.assertIs(answer.shows([1, 2], [2]), True)


class ShortTest(unittest.TestCase):
    def test_by_hand(self):
        row = [3, 1, 2, 1, 3]
        self.assertIs(Short([2]).shows(row, [2, 2]), True)
        self.assertIs(Short([]).shows(row, [4]), True)
        self.assertIs(Short([]).shows([], [4]), True)
        self.assertIs(Short([]).shows(row, []), False)
        self.assertIs(Short([1, 3]).shows(row, [1, 1, 1]), True)
        self.assertIs(Short([1]).shows(row, [1, 1, 1]), False)
        self.assertIs(Short([3]).shows(row, [1, 2]), False)
        self.assertIs(Short([3]).shows(row, [1, 1]), False)
        self.assertIs(Short([1, 4]).shows(row, [1, 3]), False)
        self.assertIs(Short([0, 4]).shows(row, [3, 3, VAST]), True)
        self.assertIs(Short([0, 4]).shows(row, [3, 3, 3]), True)
        self.assertIs(Short([-5, -1]).shows(row, [3, 3, 3]), False)
        self.assertIs(Short([0, FAR]).shows(row, [3, 3, 3]), False)

    def test_the_row_s_first_sign_stands_ahead_of_the_first_place(self):
        self.assertIs(Short([1]).shows([5, 5], [5, 6]), False)
        self.assertIs(Short([0]).shows([5, 5], [5, 6]), True)

    def test_what_lies_between_two_places(self):
        self.assertIs(Short([0, 2]).shows([1, 3, 2], [1, 2, 4]), True)
        self.assertIs(Short([0, 2]).shows([1, 2, 2], [1, 2, 4]), False)
        # A sign alike to the next one may stand ahead of the place ahead.
        self.assertIs(Short([1, 2]).shows([2, 1, 2], [1, 2, 4]), True)

    def test_all_small_ones(self):
        lists = lists_up_to(3, -2, 3)
        for row in rows_up_to(3, 2):
            for other in rows_up_to(3, 2):
                for places in lists:
                    told = Short(places).shows(row, other)
                    self.assertIs(told, look_short(places, row, other), (places, row, other))

    def test_all_places_in_longer_rows(self):
        lists = [list(some) for many in range(3) for some in itertools.combinations(range(5), many)]
        for row in itertools.product(range(2), repeat=5):
            for other in rows_up_to(3, 2):
                for places in lists:
                    told = Short(places).shows(list(row), other)
                    self.assertIs(told, look_short(places, list(row), other), (places, row, other))

    def test_by_the_fields_as_they_stand(self):
        answer = Short([0])
        self.assertIs(answer.shows([1, 1], [1, 1, 1]), False)
        answer.places.append(1)
        self.assertIs(answer.shows([1, 1], [1, 1, 1]), True)
        answer.places = []
        self.assertIs(answer.shows([1, 1], [1, 1, 1]), False)
        self.assertIs(answer.shows([1, 1], [2]), True)


class TableTest(unittest.TestCase):
    def test_all_small_tables(self):
        for one, other in (([], []), ([], [0]), ([0], []), ([0], [0]), ([0], [1]), ([], [0, 0]), ([0, 1], [])):
            for table in tables_of(one, other, -1, 2):
                self.assertIs(is_table(table, one, other), look_table(table, one, other), (table, one, other))

    def test_all_small_tables_for_more_signs(self):
        for one in itertools.product(range(2), repeat=2):
            for table in tables_of(one, [0], 0, 2):
                self.assertIs(is_table(table, list(one), [0]), look_table(table, list(one), [0]), (table, one))
            for table in tables_of([0], one, 0, 2):
                self.assertIs(is_table(table, [0], list(one)), look_table(table, [0], list(one)), (table, one))

    def test_each_number_of_a_table_changed(self):
        one, other = [1, 2, 1, 3], [2, 1, 3]
        right = [[0, 0, 0, 0], [0, 0, 1, 1], [0, 1, 1, 1], [0, 1, 2, 2], [0, 1, 2, 3]]
        self.assertIs(is_table(right, one, other), True)
        for i, j, by in itertools.product(range(5), range(4), (-2, -1, 1, 2, FAR, -FAR)):
            table = [list(line) for line in right]
            table[i][j] += by
            self.assertIs(is_table(table, one, other), look_table(table, one, other), (i, j, by))

    def test_wrong_lengths(self):
        for table in (
            [], [[]], [[0]], [[0, 0]], [[0, 0], []], [[0, 0], [0]], [[0], [0, 1]], [[0, 0], [0, 1, 1]],
            [[0, 0, 0], [0, 1, 1]], [[0, 0], [0, 1], [0, 1]], [[], [], []], [[0, 0, 1], [0, 1]],
        ):
            self.assertIs(is_table(table, [5], [5]), False, table)
        self.assertIs(is_table([[0, 0], [0, 1]], [5], [5]), True)

    def test_numbers_may_be_more(self):
        self.assertIs(is_table([[7]], [], []), True)
        self.assertIs(is_table([[VAST, VAST], [VAST, VAST + 1]], [5], [5]), True)
        self.assertIs(is_table([[VAST, VAST], [VAST, VAST]], [5], [5]), False)
        self.assertIs(is_table([[VAST, VAST], [VAST, VAST]], [5], [6]), True)
        self.assertIs(is_table([[-1]], [], []), False)
        self.assertIs(is_table([[-VAST]], [], []), False)


class LongestTest(unittest.TestCase):
    def test_by_hand(self):
        one, other, table = [1, 2, 3], [2, 4, 3], [[0, 0, 0, 0], [0, 0, 0, 0], [0, 1, 1, 1], [0, 1, 1, 2]]
        self.assertIs(Longest([1, 2], [0, 2], table).shows(one, other), True)
        for mine, theirs in (
            ([2, 1], [2, 0]), ([1, 2], [2, 0]), ([2, 1], [0, 2]), ([1, 1], [0, 0]), ([1, 3], [0, 2]), ([1, 2], [0, 3]),
            ([-2, -1], [0, 2]), ([1, 2], [-3, -1]), ([1], [0]), ([1, 2], [0]), ([1], [0, 2]), ([], []),
            ([0, 1], [0, 2]), ([1, 2], [0, 1]), ([0, 1, 2], [0, 1, 2]), ([1, FAR], [0, 2]), ([1, 2], [0, VAST]),
        ):
            self.assertIs(Longest(mine, theirs, table).shows(one, other), False, (mine, theirs))

    def test_rows_of_none(self):
        self.assertIs(Longest([], [], [[0]]).shows([], []), True)
        self.assertIs(Longest([], [], [[1]]).shows([], []), False)
        self.assertIs(Longest([], [], [[-1]]).shows([], []), False)
        self.assertIs(Longest([], [], []).shows([], []), False)
        self.assertIs(Longest([], [], [[]]).shows([], []), False)
        self.assertIs(Longest([0], [0], [[1]]).shows([], []), False)
        self.assertIs(Longest([], [], [[0], [0]]).shows([VAST], []), True)
        self.assertIs(Longest([], [], [[0, 0]]).shows([], [VAST]), True)
        self.assertIs(Longest([], [], [[0, 0]]).shows([VAST], []), False)

    def test_all_small_ones(self):
        lists = lists_up_to(2, -1, 1)
        for one, other in itertools.product(([], [0], [1]), ([], [0])):
            for table in list(tables_of(one, other, -1, 2)) + [[], [[]], [[0]], [[0, 0]], [[0], [0]], [[0, 0], [1]]]:
                for mine, theirs in itertools.product(lists[:6], lists[:6]):
                    told = Longest(mine, theirs, table).shows(one, other)
                    self.assertIs(told, look_longest(mine, theirs, table, one, other), (mine, theirs, table, one))

    def test_all_places_of_two_signs_each(self):
        lists = lists_up_to(2, -1, 2)
        tables = [[[0, 0, 0], [0, a, b], [0, c, d]] for a, b, c, d in itertools.product(range(3), repeat=4)]
        for one, other in (([0, 1], [0, 1]), ([0, 1], [1, 0]), ([0, 0], [0, 0]), ([0, 1], [2, 3])):
            for table in tables:
                for mine, theirs in itertools.product(lists, lists):
                    told = Longest(mine, theirs, table).shows(one, other)
                    self.assertIs(told, look_longest(mine, theirs, table, one, other), (mine, theirs, table, one))

    def test_by_the_fields_as_they_stand(self):
        answer = Longest([0], [0], [[0, 0], [0, 1]])
        self.assertIs(answer.shows([5], [5]), True)
        answer.table[1][1] = 2
        self.assertIs(answer.shows([5], [5]), False)
        answer.table[1][1] = 1
        answer.theirs[0] = 1
        self.assertIs(answer.shows([5], [5]), False)
        answer.theirs = [0]
        answer.mine = []
        self.assertIs(answer.shows([5], [5]), False)
        answer.mine.append(0)
        self.assertIs(answer.shows([5], [5]), True)
        answer.table = [[0, 0]]
        self.assertIs(answer.shows([5], [5]), False)


class BothTest(unittest.TestCase):
    def test_by_hand(self):
        one, other, table = [1, 2], [2, 3], [[0, 0, 0], [0, 0, 0], [0, 1, 1]]
        self.assertIs(Both([1, 2, 3], [0, 1], [1, 2], table).shows(one, other), True)
        for row, mine, theirs in (
            ([1, 2, 3], [1, 0], [1, 2]), ([1, 2, 3], [0, 1], [2, 1]), ([1, 2, 3], [0], [1, 2]),
            ([1, 2, 3], [0, 1], [1]), ([1, 2, 3], [0, 1], [1, 3]), ([1, 2, 3], [-3, -2], [-2, -1]),
            ([1, 2, 3], [0, 1, 2], [1, 2]), ([1, 2, 2, 3], [0, 1], [2, 3]), ([1, 2, 3, 3], [0, 1], [1, 2]),
            ([1, 2], [0, 1], [1, 2]), ([], [], []), ([1, 3, 2], [0, 2], [2, 1]), ([2, 2, 3], [0, 1], [1, 2]),
            ([1, 2, VAST], [0, 1], [1, 2]),
        ):
            self.assertIs(Both(row, mine, theirs, table).shows(one, other), False, (mine, theirs))

    def test_table(self):
        one, other = [1, 2], [2, 3]
        for table in (
            [], [[0]], [[0, 0, 0], [0, 0, 0]], [[0, 0, 0], [0, 0, 0], [0, 1]], [[0, 0, 0], [0, 0, 0], [0, 0, 1]],
            [[0, 0, 0], [0, 0, 0], [0, 1, 0]], [[0, 0, 0], [0, 0, 0], [0, 1, 2]], [[-1, 0, 0], [0, 0, 0], [0, 1, 1]],
        ):
            self.assertIs(Both([1, 2, 3], [0, 1], [1, 2], table).shows(one, other), False, table)

    def test_rows_of_none(self):
        self.assertIs(Both([], [], [], [[0]]).shows([], []), True)
        self.assertIs(Both([1], [], [], [[0]]).shows([], []), False)
        self.assertIs(Both([], [], [], []).shows([], []), False)
        self.assertIs(Both([], [], [], [[1]]).shows([], []), False)
        self.assertIs(Both([1], [], [], [[-1]]).shows([], []), False)
        self.assertIs(Both([VAST], [0], [], [[0], [0]]).shows([VAST], []), True)
        self.assertIs(Both([VAST], [], [0], [[0, 0]]).shows([], [VAST]), True)
        self.assertIs(Both([VAST], [0], [], [[0, 0]]).shows([], [VAST]), False)

    def test_all_small_ones(self):
        lists = [[], [0], [1], [-1], [0, 1], [1, 0]]
        for one, other in itertools.product(([], [0]), ([], [0], [1])):
            for table in list(tables_of(one, other, -1, 1)) + [[], [[]], [[0], [0, 1]]]:
                for row, mine, theirs in itertools.product(rows_up_to(2, 2), lists, lists):
                    told = Both(row, mine, theirs, table).shows(one, other)
                    self.assertIs(told, look_both(row, mine, theirs, table, one, other), (row, mine, theirs, table))

    def test_by_the_fields_as_they_stand(self):
        answer = Both([5], [0], [0], [[0, 0], [0, 1]])
        self.assertIs(answer.shows([5], [5]), True)
        answer.row.append(6)
        self.assertIs(answer.shows([5], [5]), False)
        answer.row = [5]
        self.assertIs(answer.shows([5], [5]), True)
        answer.table[1][1] = 0
        self.assertIs(answer.shows([5], [5]), False)
        answer.table = [[0, 0], [0, 1]]
        answer.mine[0] = 1
        self.assertIs(answer.shows([5], [5]), False)
        answer.mine[0] = 0
        answer.theirs = []
        self.assertIs(answer.shows([5], [5]), False)


class MissingTest(unittest.TestCase):
    def test_by_hand(self):
        row = [0, 1, 1, 0, 0]
        self.assertIs(Missing([2, 4], [1, 0, 1]).shows(row, 2), True)
        self.assertIs(Missing([3, 5], [1, 0, 1]).shows(row, 2), False)
        self.assertIs(Missing([2, 4], [1, 1, 1]).shows(row, 2), True)
        self.assertIs(Missing([2, 5], [1, 1, 1]).shows(row, 2), True)
        self.assertIs(Missing([2, 4], [0, 0, 0]).shows(row, 2), False)
        self.assertIs(Missing([3], [1, 1]).shows(row, 2), False)
        for cuts in ([4, 2], [2, 2], [1, 4], [2, 6], [2, 3], [0, 4], [-3, 4], [-3, -1], [2, VAST], [2, 4, 5], [2], []):
            self.assertIs(Missing(cuts, [1, 1, 1]).shows(row, 2), False, cuts)

    def test_a_word_has_kinds_alone(self):
        row = [0, 1, 1, 0, 0]
        for word in ([1, 1, 2], [2, 1, 1], [1, -1, 1], [1, 1, VAST], [-FAR, 1, 1], [1, 1], [1, 1, 1, 1], []):
            self.assertIs(Missing([2, 4], word).shows(row, 2), False)
        self.assertIs(Missing([], [2]).shows([0, 1], 3), True)
        self.assertIs(Missing([], [3]).shows([0, 1], 3), False)
        self.assertIs(Missing([], [-1]).shows([0, 1], 3), False)

    def test_signs_that_are_no_kinds_count_for_nothing(self):
        self.assertIs(Missing([2], [1, 1]).shows([0, 2], 2), False)
        self.assertIs(Missing([2], [1, 1]).shows([0, -1], 2), False)
        self.assertIs(Missing([4], [1, 1]).shows([0, -1, 2, 1], 2), True)
        self.assertIs(Missing([4], [1, 1]).shows([0, VAST, -VAST, 1], 2), True)
        # Two different signs, but one kind.
        self.assertIs(Missing([2], [0, 0]).shows([0, 0], 2), False)

    def test_one_kind(self):
        self.assertIs(Missing([1, 2], [0, 0, 0]).shows([0, 0], 1), True)
        self.assertIs(Missing([2], [0, 0]).shows([0, 0], 1), False)
        self.assertIs(Missing([], [0]).shows([], 1), True)
        self.assertIs(Missing([], [0]).shows([1, -1], 1), True)

    def test_a_row_of_none(self):
        self.assertIs(Missing([], [0]).shows([], 1), True)
        self.assertIs(Missing([], [VAST - 1]).shows([], VAST), True)
        self.assertIs(Missing([], [VAST]).shows([], VAST), False)
        self.assertIs(Missing([], []).shows([], 1), False)
        self.assertIs(Missing([0], [0, 0]).shows([], 1), False)
        self.assertIs(Missing([1], [0, 0]).shows([], 1), False)

    def test_far_more_kinds_than_signs(self):
        for kinds in (10 ** 9, FAR, VAST):
            self.assertIs(Missing([], [2]).shows([0, 1], kinds), True)
            self.assertIs(Missing([], [kinds - 1]).shows([0, 1], kinds), True)
            self.assertIs(Missing([], [kinds]).shows([0, 1], kinds), False)
            self.assertIs(Missing([], [1]).shows([0, 1], kinds), False)
            self.assertIs(Missing([2], [1, 1]).shows([0, 1], kinds), False)

    def test_all_small_ones(self):
        lists = lists_up_to(2, -1, 4)
        words = lists_up_to(3, -1, 2)
        for row in rows_up_to(3, 2):
            for kinds, cuts, word in itertools.product((1, 2), lists, words):
                told = Missing(cuts, word).shows(row, kinds)
                self.assertIs(told, look_missing(cuts, word, row, kinds), (cuts, word, row, kinds))

    def test_all_cuts_of_longer_rows(self):
        for row in ([0, 1, 2, 2, 0, 1, 0], [2, 1, 0, 0, 3, 1, 2], [1, 1, 0, 2, 1, 0, 2]):
            for kinds in (1, 2, 3, 4):
                for many in range(4):
                    for cuts in itertools.combinations(range(9), many):
                        for word in itertools.product(range(3), repeat=many + 1):
                            told = Missing(cuts, word).shows(row, kinds)
                            self.assertIs(told, look_missing(cuts, word, row, kinds), (cuts, word, row, kinds))

    def test_by_the_fields_as_they_stand(self):
        answer = Missing([2], [1, 1])
        self.assertIs(answer.shows([0, 1], 2), True)
        answer.cuts[0] = 1
        self.assertIs(answer.shows([0, 1], 2), False)
        answer.cuts = [2]
        answer.word[1] = 2
        self.assertIs(answer.shows([0, 1], 2), False)
        answer.word = [0, 0]
        self.assertIs(answer.shows([0, 1], 2), True)
        answer.cuts.append(3)
        self.assertIs(answer.shows([0, 1], 2), False)


class MixedTest(unittest.TestCase):
    def test_by_hand(self):
        row, one, other = [1, 2, 1, 3], [1, 1], [2, 3]
        self.assertIs(Mixed([0, 2]).shows(row, one, other), True)
        for places in ([2, 0], [0, 0], [0, 1], [1, 3], [-4, -2], [0], [0, 2, 3], [], [0, 4], [0, VAST]):
            self.assertIs(Mixed(places).shows(row, one, other), False)
        self.assertIs(Mixed([0, 2]).shows(row, one, [3, 2]), False)
        self.assertIs(Mixed([1, 3]).shows(row, other, one), True)

    def test_rows_of_none(self):
        self.assertIs(Mixed([]).shows([], [], []), True)
        self.assertIs(Mixed([0]).shows([], [], []), False)
        self.assertIs(Mixed([]).shows([VAST], [], [VAST]), True)
        self.assertIs(Mixed([0]).shows([VAST], [], [VAST]), False)
        self.assertIs(Mixed([0]).shows([VAST], [VAST], []), True)
        self.assertIs(Mixed([]).shows([VAST], [VAST], []), False)
        self.assertIs(Mixed([]).shows([VAST], [], [-VAST]), False)

    def test_all_small_ones(self):
        lists = lists_up_to(3, -1, 4)
        for row in rows_up_to(3, 2):
            for first, second in splits(len(row)):
                for one in itertools.product(range(2), repeat=first):
                    for other in itertools.product(range(2), repeat=second):
                        for places in lists:
                            told = Mixed(places).shows(row, list(one), list(other))
                            look = look_mixed(places, row, list(one), list(other))
                            self.assertIs(told, look, (places, row, one, other))

    def test_by_the_fields_as_they_stand(self):
        answer = Mixed([0])
        self.assertIs(answer.shows([1, 2], [1], [2]), True)
        answer.places[0] = 1
        self.assertIs(answer.shows([1, 2], [1], [2]), False)
        self.assertIs(answer.shows([1, 2], [2], [1]), True)
        answer.places = [0, 1]
        self.assertIs(answer.shows([1, 2], [1, 2], []), True)


class UnmixedTest(unittest.TestCase):
    def test_by_hand(self):
        row, one, other = [1, 2, 3], [1, 3], [3]
        self.assertIs(Unmixed([(0, 0), (1, 0)]).shows(row, one, other), True)
        self.assertIs(Unmixed([(1, 0), (0, 0)]).shows(row, one, other), True)
        self.assertIs(Unmixed([(1, 0), (0, 0), (1, 0), (0, 0)]).shows(row, one, other), True)
        self.assertIs(Unmixed([(0, 0)]).shows(row, one, other), False)
        self.assertIs(Unmixed([(1, 0)]).shows(row, one, other), False)
        self.assertIs(Unmixed([]).shows(row, one, other), False)
        # More pairs than can be reached, with all that must follow them.
        self.assertIs(Unmixed([(0, 0), (1, 0), (0, 1)]).shows(row, one, other), True)
        self.assertIs(Unmixed([(0, 0), (1, 0), (1, 1)]).shows(row, one, other), False)
        self.assertIs(Unmixed([(0, 0), (1, 0), (1, 1), (2, 1)]).shows(row, one, other), False)

    def test_pairs_that_are_no_counts(self):
        row, one, other = [1, 2, 3], [1, 3], [3]
        for pair in ((-1, 0), (0, -1), (3, 0), (0, 2), (2, 2), (3, 1), (-1, -1), (VAST, 0), (0, VAST), (-VAST, VAST)):
            self.assertIs(Unmixed([(0, 0), (1, 0), pair]).shows(row, one, other), False)
            self.assertIs(Unmixed([pair, (0, 0), (1, 0)]).shows(row, one, other), False)

    def test_rows_of_none(self):
        for pairs in ([], [(0, 0)], [(0, 0), (0, 0)], [(0, 1)], [(0, 0), (1, 0)]):
            self.assertIs(Unmixed(pairs).shows([], [], []), False)
        self.assertIs(Unmixed([(0, 0)]).shows([VAST], [-VAST], []), True)
        self.assertIs(Unmixed([(0, 0)]).shows([VAST], [], [-VAST]), True)
        self.assertIs(Unmixed([(0, 0)]).shows([VAST], [], [VAST]), False)

    def test_all_small_ones(self):
        for row in rows_up_to(3, 2):
            for first, second in splits(len(row)):
                for one in itertools.product(range(2), repeat=first):
                    for other in itertools.product(range(2), repeat=second):
                        for pairs in pair_sets(one, other, [(-1, 1), (first, second + 1)]):
                            told = Unmixed(pairs).shows(row, list(one), list(other))
                            look = look_unmixed(pairs, row, one, other)
                            self.assertIs(told, look, (pairs, row, one, other))

    def test_two_signs_each_in_any_turn_and_twice(self):
        for row, one, other in (
            ([0, 1, 0, 1], [0, 0], [1, 1]), ([0, 1, 1, 0], [0, 1], [0, 1]), ([1, 0, 0, 1], [0, 1], [0, 1]),
            ([0, 0, 1, 1], [0, 1], [1, 0]), ([0, 0, 0, 1], [0, 0], [0, 0]),
        ):
            for pairs in pair_sets(one, other, []):
                look = look_unmixed(pairs, row, one, other)
                self.assertIs(Unmixed(pairs).shows(row, one, other), look, (pairs, row))
                self.assertIs(Unmixed(pairs[::-1] + pairs).shows(row, one, other), look, (pairs, row))

    def test_by_the_fields_as_they_stand(self):
        answer = Unmixed([(0, 0)])
        self.assertIs(answer.shows([1, 1], [1], [2]), False)
        answer.pairs.insert(0, (1, 0))
        self.assertIs(answer.shows([1, 1], [1], [2]), True)
        answer.pairs.append((1, 1))
        self.assertIs(answer.shows([1, 1], [1], [2]), False)
        answer.pairs = [(0, 0), (1, 0)]
        self.assertIs(answer.shows([1, 1], [1], [2]), True)


if __name__ == "__main__":
    unittest.main()
