"""What is told of rows, and whether it shows what it is told for."""

from leftin.mixing import are_counts, is_followed
from leftin.rows import are_places, earliest_places, is_count, is_left, is_row, signs_at, stands_at
from leftin.tables import is_table


# The different kinds are counted, as there may be too many to look for each one.
def has_all_kinds(signs, kinds):
    return len(set([sign for sign in signs if is_count(sign, kinds - 1)])) == kinds


# A cut of no signs has no kinds up to it, so it is no cut, as there is one kind at the least.
def are_cuts(cuts, row, kinds):
    if not are_places(cuts, len(row) + 1):
        return False
    return all([has_all_kinds(row[start:end], kinds) for start, end in zip([0] + cuts, cuts)])


class Answer:
    pass


class Left(Answer):
    def __init__(self, places):
        self.places = list(places)

    def shows(self, row, other):
        return stands_at(row, other, self.places)


class Short(Answer):
    def __init__(self, places):
        self.places = list(places)

    # No sign standing ahead of its place, and the next one nowhere behind, leaves the earliest places alone.
    def shows(self, row, other):
        many = len(self.places)
        if many >= len(other) or not stands_at(row, other[:many], self.places):
            return False
        return self.places == earliest_places(row, other)


class Longest(Answer):
    def __init__(self, mine, theirs, table):
        self.mine = list(mine)
        self.theirs = list(theirs)
        self.table = [list(line) for line in table]

    def shows(self, one, other):
        if not are_places(self.mine, len(one)) or not stands_at(other, signs_at(one, self.mine), self.theirs):
            return False
        return is_table(self.table, one, other) and self.table[-1][-1] == len(self.mine)


class Both(Answer):
    def __init__(self, row, mine, theirs, table):
        self.row = list(row)
        self.mine = list(mine)
        self.theirs = list(theirs)
        self.table = [list(line) for line in table]

    def shows(self, one, other):
        if not is_row(self.row) or not stands_at(self.row, one, self.mine):
            return False
        if not stands_at(self.row, other, self.theirs):
            return False
        return is_table(self.table, one, other) and len(self.row) + self.table[-1][-1] == len(one) + len(other)


class Missing(Answer):
    def __init__(self, cuts, word):
        self.cuts = list(cuts)
        self.word = list(word)

    def shows(self, row, kinds):
        if not all([is_count(sign, kinds - 1) for sign in self.word]) or len(self.word) != len(self.cuts) + 1:
            return False
        return are_cuts(self.cuts, row, kinds) and not is_left(row, self.word)


class Mixed(Answer):
    def __init__(self, places):
        self.places = list(places)

    def shows(self, row, one, other):
        if not stands_at(row, one, self.places):
            return False
        taken = dict([(place, True) for place in self.places])
        return [sign for place, sign in enumerate(row) if place not in taken] == other


class Unmixed(Answer):
    def __init__(self, pairs):
        self.pairs = list(pairs)

    def shows(self, row, one, other):
        if len(row) != len(one) + len(other) or not all([are_counts(pair, one, other) for pair in self.pairs]):
            return False
        known = dict([(pair, True) for pair in self.pairs])
        if (0, 0) not in known or (len(one), len(other)) in known:
            return False
        return all([is_followed(pair, known, row, one, other) for pair in known])
