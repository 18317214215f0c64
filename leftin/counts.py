"""How many places and rows there are, and the least one of the rows that are left."""

from leftin.errors import BadMany
from leftin.rows import checked_row, is_count


def ways(row, other):
    signs = checked_row(row)
    asked = checked_row(other)
    counts = [1] + [0] * len(asked)
    for sign in signs:
        # From the back on, so that no list of places has this place twice.
        for many in range(len(asked) - 1, -1, -1):
            if asked[many] == sign:
                counts[many + 1] += counts[many]
    return counts[-1]


def kin(row):
    signs = checked_row(row)
    count = 1
    ending = {}
    for sign in signs:
        # Each one so far, with the sign behind it, is one that ends so; those that ended so before are among these.
        more = count - ending.get(sign, 0)
        ending[sign] = count
        count += more
    return count


# What stands farther ahead decides the order, so a greater sign gives way to a lesser one behind it,
# as long as more signs may be struck out.
def least(row, many):
    signs = checked_row(row)
    if not is_count(many, len(signs)):
        raise BadMany("a count is a whole number from 0 to the row's count")
    spare = len(signs) - many
    told = []
    for sign in signs:
        while spare > 0 and len(told) > 0 and told[-1] > sign:
            told.pop()
            spare -= 1
        told.append(sign)
    return told[:many]
