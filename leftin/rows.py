"""What a row is, at which places of a row another one stands, and whether it is left of it."""

from leftin.errors import BadRow


def is_whole(value):
    # Python takes True and False for whole numbers; the document doesn't.
    return isinstance(value, int) and not isinstance(value, bool)


def is_count(value, most):
    return is_whole(value) and 0 <= value <= most


def is_row(value):
    return isinstance(value, list) and all([is_whole(sign) for sign in value])


# The copy is there so that nothing handed in is kept.
# The error doesn't show what was refused: Python won't write out a number of too many digits.
def checked_row(value):
    if not is_row(value):
        raise BadRow("a row is a list of whole numbers")
    return list(value)


# Each place is held against the one ahead and the count, as Python would read a place below 0 from the row's end.
def are_places(places, count):
    if not is_row(places):
        return False
    ahead = -1
    for place in places:
        if place <= ahead or place >= count:
            return False
        ahead = place
    return True


def signs_at(row, places):
    return [row[place] for place in places]


def stands_at(row, other, places):
    return are_places(places, len(row)) and signs_at(row, places) == other


# Taking each sign where it first comes leaves the most of the row for the signs behind it,
# so no more first signs of the other one stand in the row than are found here.
def earliest_places(row, other):
    places = []
    for place, sign in enumerate(row):
        if len(places) == len(other):
            break
        if sign == other[len(places)]:
            places.append(place)
    return places


def is_left(row, other):
    return len(earliest_places(row, other)) == len(other)
