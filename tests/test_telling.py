import itertools
import unittest

from helper import FAR, NO_NUMBERS, NO_ROWS, VAST, all_places, look_both, look_is_left, look_longest
from helper import look_missing, look_mixed, look_short, look_unmixed, refused, rows_up_to
from leftin.answers import Both, Left, Longest, Missing, Mixed, Short, Unmixed
from leftin.errors import BadKinds, BadMany, BadRow
from leftin.telling import left, longest, missing, mixed, shortest

FAR_ROW = [FAR, -1, FAR + 1, -FAR, 0, FAR]
LONG = [(7 * turn * turn + turn) % 11 - 5 for turn in range(120)]
LONG_OTHER = [(5 * turn * turn + 3 * turn) % 11 - 5 for turn in range(110)]


def is_of(answer, kind):
    return answer.__class__ is kind


class SmallRows(unittest.TestCase):
    def test_looks_agree_on_what_is_left(self):
        for row in rows_up_to(4, 2):
            for other in rows_up_to(4, 2):
                self.assertEqual(look_is_left(row, other), all_places(row, other) != [], (row, other))


class LeftTest(unittest.TestCase):
    def check(self, row, other):
        answer = left(row, other)
        if all_places(row, other):
            self.assertTrue(is_of(answer, Left), (row, other))
            self.assertIn(answer.places, all_places(row, other))
        else:
            self.assertTrue(is_of(answer, Short), (row, other))
            self.assertTrue(look_short(answer.places, row, other), (row, other))
        self.assertIs(answer.shows(row, other), True)

    def test_ordinary(self):
        self.assertEqual(left([3, 1, 2, 1, 3], [1, 3]).places, [1, 4])
        self.assertEqual(left([3, 1, 2, 1, 3], [2, 2]).places, [2])
        for other in ([1, 3], [2, 2], [3, 3], [3, 3, 3], [1, 2, 1], [4], [3, 4], [2, 1, 3, 1]):
            self.check([3, 1, 2, 1, 3], other)

    def test_edges(self):
        for row in ([], [0], FAR_ROW, [VAST, -VAST]):
            for other in ([], [0], FAR_ROW, row, row + [0], row[1:], [-VAST], [FAR]):
                self.check(row, other)

    def test_long_rows(self):
        self.assertTrue(is_of(left([5] * 5000, [5] * 5000), Left))
        answer = left([5] * 5000, [5] * 5001)
        self.assertTrue(is_of(answer, Short))
        self.assertEqual(answer.places, list(range(5000)))

    def test_all_small_rows(self):
        for row in rows_up_to(5, 2):
            for other in rows_up_to(4, 3):
                self.check(row, other)

    def test_never_both(self):
        for row in rows_up_to(3, 2):
            lists = [list(some) for many in range(4) for some in itertools.combinations(range(len(row)), many)]
            for other in rows_up_to(3, 2):
                some_left = any(Left(places).shows(row, other) for places in lists)
                some_short = any(Short(places).shows(row, other) for places in lists)
                self.assertNotEqual(some_left, some_short, (row, other))


class LongestTest(unittest.TestCase):
    def check(self, one, other):
        answer = longest(one, other)
        self.assertTrue(is_of(answer, Longest))
        self.assertTrue(look_longest(answer.mine, answer.theirs, answer.table, one, other), (one, other))
        self.assertIs(answer.shows(one, other), True)
        return answer

    def test_ordinary(self):
        self.assertEqual(len(self.check([1, 2, 3, 2], [2, 4, 3]).mine), 2)
        self.assertEqual(self.check([1, 2], [3, 4]).mine, [])
        self.assertEqual(self.check([1, 2, 3], [1, 2, 3]).theirs, [0, 1, 2])

    def test_edges(self):
        rows = ([], [0], FAR_ROW, FAR_ROW[::-1], [VAST, -VAST], [-VAST, VAST], [5] * 4)
        for one, other in itertools.product(rows, rows):
            self.check(one, other)
        self.assertEqual(self.check([], []).table, [[0]])
        self.assertEqual(self.check(FAR_ROW, FAR_ROW).mine, [0, 1, 2, 3, 4, 5])

    def test_long_rows(self):
        self.check(LONG, LONG_OTHER)
        self.check([5] * 300, [5] * 250)

    def test_all_small_rows(self):
        for one in rows_up_to(4, 2):
            for other in rows_up_to(4, 2) + [[2], [0, 2], [2, 1, 0]]:
                answer = self.check(one, other)
                most = max(len(row) for row in rows_up_to(4, 3) if look_is_left(one, row) and look_is_left(other, row))
                self.assertEqual(len(answer.mine), most, (one, other))


class ShortestTest(unittest.TestCase):
    def check(self, one, other):
        answer = shortest(one, other)
        self.assertTrue(is_of(answer, Both))
        look = look_both(answer.row, answer.mine, answer.theirs, answer.table, one, other)
        self.assertTrue(look, (one, other))
        self.assertIs(answer.shows(one, other), True)
        return answer

    def test_ordinary(self):
        self.assertEqual(self.check([1, 2], [2, 3]).row, [1, 2, 3])
        self.assertEqual(len(self.check([1, 2], [3, 4]).row), 4)
        self.assertEqual(len(self.check([1, 2, 1], [2, 1, 2]).row), 4)

    def test_edges(self):
        rows = ([], [0], FAR_ROW, FAR_ROW[::-1], [VAST, -VAST], [-VAST, VAST], [5] * 4)
        for one, other in itertools.product(rows, rows):
            self.check(one, other)
        self.assertEqual(self.check([], []).row, [])
        self.assertEqual(self.check(FAR_ROW, FAR_ROW).row, FAR_ROW)
        self.assertEqual(self.check(FAR_ROW, []).row, FAR_ROW)
        self.assertEqual(self.check([], FAR_ROW).theirs, [0, 1, 2, 3, 4, 5])

    def test_long_rows(self):
        self.check(LONG, LONG_OTHER)
        self.check([5] * 300, [5] * 250)

    def test_all_small_rows(self):
        rows = rows_up_to(6, 2)
        for one in rows_up_to(3, 2):
            for other in rows_up_to(3, 2):
                answer = self.check(one, other)
                fewest = min(len(row) for row in rows if look_is_left(row, one) and look_is_left(row, other))
                self.assertEqual(len(answer.row), fewest, (one, other))

    def test_rows_with_a_sign_of_their_own(self):
        for one in rows_up_to(3, 2):
            for other in itertools.product((1, 2), repeat=3):
                self.check(one, list(other))


class MissingTest(unittest.TestCase):
    def check(self, row, kinds):
        answer = missing(row, kinds)
        self.assertTrue(is_of(answer, Missing))
        self.assertTrue(look_missing(answer.cuts, answer.word, row, kinds), (row, len(answer.cuts)))
        self.assertIs(answer.shows(row, kinds), True)
        return answer

    def test_ordinary(self):
        self.assertEqual(self.check([0, 1, 1, 0, 0], 2).cuts, [2, 4])
        self.assertEqual(self.check([0, 1, 1, 0, 0], 3).cuts, [])
        self.assertEqual(self.check([0, 1, 1, 0, 0], 3).word, [2])
        self.check([2, 0, 1, 1, 0, 2, 2, 1], 3)

    def test_one_kind(self):
        self.assertEqual(self.check([0, 0, 0], 1).cuts, [1, 2, 3])
        self.assertEqual(self.check([0, 1, 0, -1], 1).word, [0, 0, 0])
        self.assertEqual(self.check([1, 2], 1).cuts, [])

    def test_signs_that_are_no_kinds(self):
        self.assertEqual(self.check([5, 0, -1, 1, VAST, 0, -VAST, 2], 2).cuts, [4])
        self.assertEqual(self.check([2, -1, 3], 2).cuts, [])

    def test_a_row_of_none(self):
        for kinds in (1, 2, FAR, VAST):
            self.assertEqual(self.check([], kinds).cuts, [])

    def test_far_more_kinds_than_signs(self):
        for kinds in (10, 2 ** 63, FAR, VAST):
            for row in ([0], [0, 1, 2], [2, 1, 0, 5], [1, 1], [kinds - 1, 0, kinds], [-1, VAST]):
                answer = self.check(row, kinds)
                self.assertEqual(answer.cuts, [])
                self.assertNotIn(answer.word[0], row)

    def test_as_many_kinds_as_signs_and_one_more(self):
        row = list(range(50))
        self.assertEqual(self.check(row, 50).cuts, [50])
        self.assertEqual(self.check(row, 51).cuts, [])
        self.assertEqual(self.check(row[::-1] + row, 50).cuts, [50, 100])

    def test_long_rows(self):
        self.check([turn * turn % 7 for turn in range(3000)], 5)
        self.check([turn * 3 % 7 for turn in range(3000)], 7)
        self.assertEqual(len(self.check([0] * 3000, 1).cuts), 3000)

    def test_all_small_rows(self):
        for row in rows_up_to(6, 3):
            for kinds in (1, 2, 3, 4):
                answer = self.check(row, kinds)
                if len(row) < 5:
                    for other in itertools.product(range(kinds), repeat=len(answer.cuts)):
                        self.assertTrue(look_is_left(row, other), (row, kinds, other))


class MixedTest(unittest.TestCase):
    def check(self, row, one, other, is_mixed):
        answer = mixed(row, one, other)
        if is_mixed:
            self.assertTrue(is_of(answer, Mixed), (row, one, other))
            self.assertTrue(look_mixed(answer.places, row, one, other), (row, one, other))
        else:
            self.assertTrue(is_of(answer, Unmixed), (row, one, other))
            self.assertTrue(all(isinstance(pair, tuple) for pair in answer.pairs))
            self.assertTrue(look_unmixed(answer.pairs, row, one, other), (row, one, other))
        self.assertIs(answer.shows(row, one, other), True)
        return answer

    def test_ordinary(self):
        self.assertEqual(self.check([1, 2, 1, 3], [1, 1], [2, 3], True).places, [0, 2])
        self.check([1, 2, 3], [1, 3], [3], False)
        self.check([1, 2, 3], [3, 1], [2], False)
        # Taking each sign from the first one while it can be taken goes astray here.
        self.check([1, 2, 1, 3], [1, 3], [1, 2], True)
        self.check([1, 1, 2, 1, 3], [1, 1, 3], [1, 2], True)

    def test_edges(self):
        self.assertEqual(self.check([], [], [], True).places, [])
        self.check([VAST], [VAST], [], True)
        self.check([VAST], [], [VAST], True)
        self.check([VAST], [-VAST], [], False)
        self.check([VAST], [], [-VAST], False)
        self.check(FAR_ROW, FAR_ROW, [], True)
        self.check(FAR_ROW, [], FAR_ROW, True)
        self.check(FAR_ROW, FAR_ROW[::2], FAR_ROW[1::2], True)
        self.check(FAR_ROW, FAR_ROW[1::2], FAR_ROW[::2], True)
        self.check(FAR_ROW, FAR_ROW[3:], FAR_ROW[:3], True)
        self.check(FAR_ROW, FAR_ROW[::-1], [], False)

    def test_a_row_and_itself(self):
        half = [1, 2, 3]
        self.check([1, 1, 2, 2, 3, 3], half, half, True)
        self.check([1, 2, 3, 3, 2, 1], half, half, False)

    def test_long_rows(self):
        self.check([5] * 200, [5] * 90, [5] * 110, True)
        self.check([5] * 199 + [6], [5] * 90, [5] * 110, False)
        self.check(LONG, LONG[::3], [sign for turn, sign in enumerate(LONG) if turn % 3 > 0], True)

    def all_mixed(self, row, first):
        found = {}
        for places in itertools.combinations(range(len(row)), first):
            others = [place for place in range(len(row)) if place not in places]
            found[tuple(row[p] for p in places), tuple(row[p] for p in others)] = True
        return found

    def test_all_small_rows(self):
        for row in rows_up_to(5, 2):
            for first in range(len(row) + 1):
                found = self.all_mixed(row, first)
                for one in itertools.product(range(2), repeat=first):
                    for other in itertools.product(range(2), repeat=len(row) - first):
                        self.check(row, list(one), list(other), (one, other) in found)

    def test_never_both(self):
        for row in itertools.product(range(2), repeat=2):
            for one, other in itertools.product([[0], [1]], repeat=2):
                pairs = [(0, 0), (0, 1), (1, 0), (1, 1)]
                some = [list(few) for many in range(5) for few in itertools.combinations(pairs, many)]
                some_mixed = any(Mixed(places).shows(list(row), one, other) for places in ([0], [1]))
                some_unmixed = any(Unmixed(few).shows(list(row), one, other) for few in some)
                self.assertNotEqual(some_mixed, some_unmixed, (row, one, other))


class KeptTest(unittest.TestCase):
    calls = (
        (left, [[1, 2, 1], [1, 1]]), (left, [[1, 2, 1], [1, 3]]), (longest, [[1, 2, 1], [2, 1]]),
        (shortest, [[1, 2, 1], [2, 1]]), (missing, [[0, 1, 1], 2]), (mixed, [[1, 2, 1], [1, 1], [2]]),
        (mixed, [[1, 2, 1], [1, 3], [2]]),
    )

    def fields(self, answer):
        return repr(sorted(vars(answer).items()))

    def copied(self, given):
        return [list(value) if isinstance(value, list) else value for value in given]

    def test_nothing_handed_in_is_changed_or_kept(self):
        for tell, rows in self.calls:
            given = self.copied(rows)
            answer = tell(*given)
            self.assertEqual(given, rows, tell.__name__)
            before = self.fields(answer)
            for value in given:
                if isinstance(value, list):
                    value[0] = 9
                    value.append(8)
            self.assertEqual(self.fields(answer), before, tell.__name__)

    def test_what_is_told_is_new(self):
        for tell, rows in self.calls:
            given = self.copied(rows)
            first = tell(*given)
            before = self.fields(first)
            for value in vars(first).values():
                value.append(9)
                if isinstance(value[0], list):
                    value[0].append(9)
            self.assertEqual(given, rows, tell.__name__)
            self.assertEqual(self.fields(tell(*given)), before, tell.__name__)

    def test_no_list_of_an_answer_is_another_one_of_it(self):
        row = [1, 2, 1]
        for answer in (longest(row, row), shortest(row, row), longest([], []), shortest([], []), missing([0, 0], 1)):
            lists = []
            for value in vars(answer).values():
                lists.append(value)
                lists.extend(part for part in value if isinstance(part, list))
            self.assertEqual(len({id(value) for value in lists}), len(lists))

    def test_a_row_and_itself_stays_as_it_is(self):
        row = [1, 2, 1]
        left(row, row)
        longest(row, row)
        self.assertIsNot(shortest(row, row).row, row)
        self.assertEqual(row, [1, 2, 1])

    def test_the_same_each_time(self):
        for tell, rows in self.calls:
            self.assertEqual(self.fields(tell(*rows)), self.fields(tell(*rows)))


class RefusalTest(unittest.TestCase):
    def test_no_row_in_the_place_of_one(self):
        for value in NO_ROWS:
            for tell in (left, longest, shortest):
                for given in ((value, [1]), ([1], value), (value, []), ([], value), (value, value)):
                    refused(self, BadRow, tell, given)

    def test_missing_refuses_no_row(self):
        for value in NO_ROWS:
            for kinds in (1, 2, VAST):
                refused(self, BadRow, missing, (value, kinds))

    def test_missing_refuses_no_kinds(self):
        for row in ([], [0, 1], [VAST]):
            for kinds in NO_NUMBERS + [0, -1, -FAR, -VAST]:
                refused(self, BadKinds, missing, (row, kinds))

    def test_missing_refuses_no_row_ahead_of_no_kinds(self):
        for value in NO_ROWS:
            for kinds in (0, -1, True, None, "1", [1]):
                refused(self, BadRow, missing, (value, kinds))

    def test_mixed_refuses_no_row(self):
        for value in NO_ROWS:
            for given in ((value, [1], [2]), ([1, 2], value, [2]), ([1, 2], [1], value)):
                refused(self, BadRow, mixed, given)

    def test_mixed_refuses_what_has_not_as_many_signs(self):
        for given in (
            ([], [1], []), ([], [], [1]), ([1], [], []), ([1, 2], [1], []), ([1, 2], [], [2]), ([1, 2], [1, 2], [2]),
            ([1, 2], [1], [1, 2]), ([1], [1], [1]), ([1, 2, 3], [1], [2]), ([VAST], [VAST], [VAST]),
        ):
            refused(self, BadMany, mixed, given)

    def test_mixed_refuses_no_row_ahead_of_not_as_many_signs(self):
        for value in NO_ROWS:
            for given in ((value, [1] * 9, [2]), ([1, 2], value, [2] * 9), ([1, 2], [1] * 9, value), ([], [1], value)):
                refused(self, BadRow, mixed, given)

    def test_by_its_arguments_names(self):
        self.assertEqual(left(other=[1], row=[2, 1]).places, [1])
        self.assertEqual(longest(other=[1], one=[2, 1]).mine, [1])
        self.assertEqual(shortest(other=[1], one=[2, 1]).mine, [0, 1])
        self.assertEqual(missing(kinds=2, row=[1, 0]).cuts, [2])
        self.assertEqual(mixed(other=[1], one=[2], row=[1, 2]).places, [1])


if __name__ == "__main__":
    unittest.main()
