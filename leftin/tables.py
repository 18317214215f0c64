"""Tables for two rows: how many signs a row that is left of both has at the most."""

from leftin.rows import is_row


# The least number that may stand for these counts, by what stands for fewer signs.
# That none is below 0 is told of none and none alone; the others follow, as they are no less than that one.
def bound(table, one, other, mine, theirs):
    bounds = [0]
    if mine > 0:
        bounds.append(table[mine - 1][theirs])
    if theirs > 0:
        bounds.append(table[mine][theirs - 1])
    if mine > 0 and theirs > 0 and one[mine - 1] == other[theirs - 1]:
        bounds.append(table[mine - 1][theirs - 1] + 1)
    return max(bounds)


def has_lengths(table, one, other):
    return len(table) == len(one) + 1 and all([is_row(line) and len(line) == len(other) + 1 for line in table])


def is_table(table, one, other):
    if not has_lengths(table, one, other):
        return False
    for mine, line in enumerate(table):
        for theirs, number in enumerate(line):
            if number < bound(table, one, other, mine, theirs):
                return False
    return True


# Each number is its bound, so no table for the two rows has a lower one anywhere.
def least_table(one, other):
    table = []
    for mine in range(len(one) + 1):
        table.append([])
        for theirs in range(len(other) + 1):
            table[mine].append(bound(table, one, other, mine, theirs))
    return table


# Goes back through a least table. A number above those for one sign fewer of either row
# comes from the last signs of both counts, so these are alike.
def alike_pairs(table, one, other):
    pairs = []
    mine = len(one)
    theirs = len(other)
    while table[mine][theirs] > 0:
        if table[mine - 1][theirs] == table[mine][theirs]:
            mine -= 1
        elif table[mine][theirs - 1] == table[mine][theirs]:
            theirs -= 1
        else:
            mine -= 1
            theirs -= 1
            pairs.append((mine, theirs))
    pairs.reverse()
    return pairs
