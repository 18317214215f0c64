"""Tells of rows what is left of what, each time with what shows it."""

from leftin.answers import Both, Left, Longest, Missing, Mixed, Short, Unmixed
from leftin.errors import BadKinds, BadMany
from leftin.mixing import pairs_reached, places_on_way
from leftin.rows import checked_row, earliest_places, is_count, is_whole
from leftin.tables import alike_pairs, least_table


def left(row, other):
    signs = checked_row(row)
    asked = checked_row(other)
    places = earliest_places(signs, asked)
    if len(places) == len(asked):
        return Left(places)
    return Short(places)


def longest(one, other):
    first = checked_row(one)
    second = checked_row(other)
    table = least_table(first, second)
    pairs = alike_pairs(table, first, second)
    return Longest([pair[0] for pair in pairs], [pair[1] for pair in pairs], table)


# Puts signs behind the row, those that have no place there yet, until as many as asked for have one.
def put_behind(row, places, signs, many):
    while len(places) < many:
        row.append(signs[len(places)])
        places.append(len(row) - 1)


# Of the two rows each pair of alike signs is put into the row once, and each other sign by itself.
def shortest(one, other):
    first = checked_row(one)
    second = checked_row(other)
    table = least_table(first, second)
    row = []
    mine = []
    theirs = []
    for pair in alike_pairs(table, first, second):
        put_behind(row, theirs, second, pair[1])
        put_behind(row, mine, first, pair[0] + 1)
        theirs.append(mine[-1])
    put_behind(row, mine, first, len(first))
    put_behind(row, theirs, second, len(second))
    return Both(row, mine, theirs, table)


# No more steps than there are seen kinds, however many kinds there are.
def least_unseen(seen):
    kind = 0
    while kind in seen:
        kind += 1
    return kind


# The sign that ends a stretch stands nowhere else in it, so the word's signs stand no earlier than at the cuts,
# and its last one stands nowhere behind them.
def missing(row, kinds):
    signs = checked_row(row)
    if not is_whole(kinds) or kinds < 1:
        raise BadKinds("kinds are a whole number from 1 on")
    cuts = []
    word = []
    seen = {}
    for place, sign in enumerate(signs):
        if is_count(sign, kinds - 1):
            seen[sign] = True
        if len(seen) == kinds:
            cuts.append(place + 1)
            word.append(sign)
            seen = {}
    word.append(least_unseen(seen))
    return Missing(cuts, word)


def mixed(row, one, other):
    signs = checked_row(row)
    first = checked_row(one)
    second = checked_row(other)
    if len(signs) != len(first) + len(second):
        raise BadMany("the two have as many signs together as the row")
    ahead = pairs_reached(signs, first, second)
    pair = (len(first), len(second))
    if pair in ahead:
        return Mixed(places_on_way(ahead, pair))
    return Unmixed(list(ahead))
