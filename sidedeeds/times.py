"""Times: when deeds may begin, and plans that give them out to hands."""

from sidedeeds.deeds import has_number, missing_from
from sidedeeds.errors import TooMany
from sidedeeds.kinds import is_whole_within
from sidedeeds.orders import without
from sidedeeds.ties import early_begins, free_of, late_begins, ties

MOST_TRIED = 6


def ticks_of(row):
    return [ticks for name, ticks, parts in row]


def earliest(row):
    return tuple(early_begins(ties(row), ticks_of(row)))


def least_time(row):
    return max([begin + ticks for begin, ticks in zip(earliest(row), ticks_of(row))], default=0)


def latest(row):
    return tuple(late_begins(ties(row), ticks_of(row), least_time(row)))


def tight(row):
    early = earliest(row)
    late = latest(row)
    return tuple(number for number in range(len(row)) if early[number] == late[number])


def planned(row, hands, order):
    return given_out(row, ties(row), hands, order)


def given_out(row, tied, hands, order):
    # One hand at least; and hands beyond one for each deed would never be given any.
    free_at = [0] * max(1, min(hands, len(row)))
    end_of = {}
    left = tuple(order)
    told = []
    while left:
        number = free_of(left, tied)[0]
        ready = max([end_of[one] for one, other in tied if other == number], default=0)
        begins = [max(free, ready) for free in free_at]
        begin = min(begins)
        hand = begins.index(begin)
        end_of[number] = free_at[hand] = begin + row[number][1]
        told.append((number, hand, begin))
        left = without(left, number)
    return tuple(told)


def in_turn(row, hands):
    return planned(row, hands, tuple(range(len(row))))


def ends_at(row, plan):
    return max([begin + row[number][1] for number, hand, begin in plan if has_number(row, number)], default=0)


def why_bad(row, hands, plan):
    spans = {}
    for number, hand, begin in plan:
        if not has_number(row, number):
            return "none", number
        if number in spans:
            return "twice", number
        if not is_whole_within(hand, 0, hands - 1) or begin < 0:
            return "hand", number
        spans[number] = (hand, begin, begin + row[number][1])
    missing = missing_from(row, spans)
    if missing is not None:
        return "missing", missing
    return why_bad_together(row, spans)


def why_bad_together(row, spans):
    for later in range(len(row)):
        for earlier in range(later):
            if overlap(spans[earlier], spans[later]):
                return "overlap", earlier, later
    for one, other in ties(row):
        if spans[other][1] < spans[one][2]:
            return "order", one, other
    return None


def overlap(one, other):
    """Whether two spans `(hand, begin, end)` are on one hand at a time."""
    return one[0] == other[0] and one[1] < other[2] and other[1] < one[2]


def best_time(row, hands):
    if len(row) > MOST_TRIED:
        raise TooMany(f"there are more than {MOST_TRIED} deeds")
    tied = ties(row)
    orders = orders_of(tuple(range(len(row))), tied)
    # Given out in the order in which they begin in a plan without fault, none ends later than there.
    return min([ends_at(row, given_out(row, tied, hands, order)) for order in orders])


def orders_of(left, tied):
    """All orders of these numbers that keep their ties."""
    if not left:
        return [()]
    return [(number,) + rest for number in free_of(left, tied) for rest in orders_of(without(left, number), tied)]
