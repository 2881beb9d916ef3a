"""Orders: which rows are the same, since only neighbours that are not tied were swapped."""

from sidedeeds.errors import NoDeed
from sidedeeds.rounds import rounds
from sidedeeds.ties import are_tied, free_of, pairs_of, ties


def normal(row):
    told = []
    for numbers in rounds(row):
        # The name stands first in a deed, so deeds of unlike names rise by these.
        told.extend(sorted([row[number] for number in numbers]))
    return tuple(told)


def are_same(one, other):
    return swaps(one, other) is not None


def swapped(row, number):
    if not 0 <= number < len(row) - 1:
        raise NoDeed(f"there are no deeds {number} and {number + 1}")
    if are_tied(row[number], row[number + 1]):
        return None
    return row[:number] + (row[number + 1], row[number]) + row[number + 2:]


def swaps(one, other):
    places = places_in(one, other)
    if places is None:
        return None
    # A swap uncrosses one pair at most, and as long as some are crossed, two neighbours are.
    crossed = [(early, late) for early, late in pairs_of(len(one)) if places[early] > places[late]]
    if any(are_tied(one[early], one[late]) for early, late in crossed):
        return None
    return len(crossed)


def places_in(one, other):
    """For each deed of one its place in other; None, if these are not the same deeds."""
    if len(one) != len(other):
        return None
    left = list(range(len(other)))
    told = []
    for deed in one:
        found = [place for place in left if other[place] == deed]
        if not found:
            return None
        place = found[0]
        told.append(place)
        left.remove(place)
    return told


def orders_many(row):
    tied = ties(row)
    # Ways to the same deeds left are counted together: there are too many rows to count them one by one.
    ways_to = {tuple(range(len(row))): 1}
    for step in range(len(row)):
        ways_to = one_step_on(ways_to, tied)
    return ways_to[()]


def one_step_on(ways_to, tied):
    told = {}
    for left, ways in ways_to.items():
        for number in free_of(left, tied):
            rest = without(left, number)
            told[rest] = told.get(rest, 0) + ways
    return told


def without(left, number):
    return tuple(other for other in left if other != number)


def least_row(row):
    tied = ties(row)
    left = tuple(range(len(row)))
    told = []
    while left:
        number = min(free_of(left, tied), key=lambda free: row[free])
        told.append(row[number])
        left = without(left, number)
    return tuple(told)
