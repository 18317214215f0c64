"""Pairs of counts of first signs of two rows, and how a row mixed of the two goes from pair to pair."""

from leftin.rows import is_count


def are_counts(pair, one, other):
    if not isinstance(pair, tuple) or len(pair) != 2:
        return False
    return is_count(pair[0], len(one)) and is_count(pair[1], len(other))


# The pairs with one sign more whose sign is the row's next one; the row has as many signs as both others together.
def pairs_after(pair, row, one, other):
    mine = pair[0]
    theirs = pair[1]
    after = []
    if mine < len(one) and one[mine] == row[mine + theirs]:
        after.append((mine + 1, theirs))
    if theirs < len(other) and other[theirs] == row[mine + theirs]:
        after.append((mine, theirs + 1))
    return after


def is_followed(pair, known, row, one, other):
    return all([after in known for after in pairs_after(pair, row, one, other)])


# Each pair that first signs of the row can be mixed of, with the pair ahead of it on one way there.
def pairs_reached(row, one, other):
    ahead = {(0, 0): (0, 0)}
    pairs = [(0, 0)]
    gone = 0
    while gone < len(pairs):
        pair = pairs[gone]
        for after in pairs_after(pair, row, one, other):
            if after not in ahead:
                ahead[after] = pair
                pairs.append(after)
        gone += 1
    return ahead


def places_on_way(ahead, pair):
    places = []
    here = pair
    while here != (0, 0):
        before = ahead[here]
        if before[0] < here[0]:
            places.append(before[0] + before[1])
        here = before
    places.reverse()
    return places
