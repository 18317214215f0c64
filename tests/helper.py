"""What several tests share: rows, what is none, and looks of their own at what the document says, word by word."""

import itertools
from fractions import Fraction

FAR = 2 ** 64 * 10 ** 40
# More digits than Python writes out of itself: no check and no refusal may try to.
VAST = 1 << 20000

NO_NUMBERS = [
    True, False, None, "", "1", "a", 1.0, 0.5, float("nan"), 1j, b"1", Fraction(2), [], [1], (), (1,), {}, len, int,
]

NO_LISTS = [
    None, 0, 1, -1, VAST, True, False, 1.5, "", "12", b"12", bytearray(b"12"), (), (1, 2), {}, {0: 1}, set(), {1},
    frozenset(), len, lambda: [], list, object(), range(3), iter([1]), {0: 1}.keys(), memoryview(b"12"),
]

WITHIN_ITSELF = [1]
WITHIN_ITSELF.append(WITHIN_ITSELF)

NO_ROWS = NO_LISTS + [WITHIN_ITSELF, [VAST, None]] + [
    row for value in NO_NUMBERS for row in ([value], [value, 1, 2], [1, value, 2], [1, 2, value], [value, value])
]


def rows_up_to(count, kinds):
    return [list(row) for many in range(count + 1) for row in itertools.product(range(kinds), repeat=many)]


def lists_up_to(count, low, high):
    numbers = range(low, high + 1)
    return [list(some) for many in range(count + 1) for some in itertools.product(numbers, repeat=many)]


def all_places(row, other):
    found = []
    for places in itertools.combinations(range(len(row)), len(other)):
        if [row[place] for place in places] == other:
            found.append(list(places))
    return found


def look_is_left(row, other):
    rest = iter(row)
    return all(sign in rest for sign in other)


def rise_within(numbers, low, high):
    return all(low <= number <= high for number in numbers) and all(a < b for a, b in zip(numbers, numbers[1:]))


def look_left(places, row, other):
    if not rise_within(places, 0, len(row) - 1) or len(places) != len(other):
        return False
    return all(row[places[turn]] == other[turn] for turn in range(len(other)))


def look_short(places, row, other):
    if len(places) >= len(other) or not look_left(places, row, other[:len(places)]):
        return False
    for turn, place in enumerate(places):
        start = 0 if turn == 0 else places[turn - 1] + 1
        if row[place] in row[start:place]:
            return False
    behind = row[places[-1] + 1:] if places else row
    return other[len(places)] not in behind


def look_table(table, one, other):
    if len(table) != len(one) + 1 or any(len(line) != len(other) + 1 for line in table):
        return False
    if table[0][0] < 0:
        return False
    for i, j in itertools.product(range(len(one) + 1), range(len(other) + 1)):
        if i > 0 and table[i][j] < table[i - 1][j]:
            return False
        if j > 0 and table[i][j] < table[i][j - 1]:
            return False
        if i > 0 and j > 0 and one[i - 1] == other[j - 1] and table[i][j] < table[i - 1][j - 1] + 1:
            return False
    return True


def look_longest(mine, theirs, table, one, other):
    if not rise_within(mine, 0, len(one) - 1) or not rise_within(theirs, 0, len(other) - 1):
        return False
    if len(mine) != len(theirs) or any(one[p] != other[q] for p, q in zip(mine, theirs)):
        return False
    return look_table(table, one, other) and table[len(one)][len(other)] == len(mine)


def look_both(row, mine, theirs, table, one, other):
    if not look_left(mine, row, one) or not look_left(theirs, row, other):
        return False
    return look_table(table, one, other) and len(row) + table[len(one)][len(other)] == len(one) + len(other)


def look_missing(cuts, word, row, kinds):
    if not rise_within(cuts, 1, len(row)) or len(word) != len(cuts) + 1:
        return False
    start = 0
    for cut in cuts:
        # Of one kind more than the row has signs, one doesn't stand there, so no more kinds are looked for.
        if any(kind not in row[start:cut] for kind in range(min(kinds, len(row) + 1))):
            return False
        start = cut
    if any(sign < 0 or sign >= kinds for sign in word):
        return False
    return not look_is_left(row, word)


def look_mixed(places, row, one, other):
    if not look_left(places, row, one):
        return False
    others = [place for place in range(len(row)) if place not in places]
    return look_left(others, row, other)


def look_unmixed(pairs, row, one, other):
    if any(not 0 <= i <= len(one) or not 0 <= j <= len(other) for i, j in pairs):
        return False
    if (0, 0) not in pairs or (len(one), len(other)) in pairs:
        return False
    for i, j in pairs:
        if i < len(one) and one[i] == row[i + j] and (i + 1, j) not in pairs:
            return False
        if j < len(other) and other[j] == row[i + j] and (i, j + 1) not in pairs:
            return False
    return True


# A refusal by a class under or above the one that is told is not the one that is told.
def refused(test, error, tell, given):
    with test.assertRaises(ValueError) as caught:
        tell(*given)
    test.assertIs(caught.exception.__class__, error)
