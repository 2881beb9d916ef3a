"""Ties: which deeds of a row must keep their order."""

from sidedeeds.deeds import reads, writes


def are_tied(one, other):
    return writes_into(one, other) or writes_into(other, one)


def writes_into(one, other):
    touched = reads(other) + writes(other)
    return any(cell in touched for cell in writes(one))


def pairs_of(many):
    """All pairs of so many numbers from 0 on, the lesser first; rising."""
    return [(one, other) for one in range(many) for other in range(one + 1, many)]


def ties(row):
    return tuple((one, other) for one, other in pairs_of(len(row)) if are_tied(row[one], row[other]))


def ahead(row, number):
    return led_to(steps_back(ties(row)), number)


def behind(row, number):
    return led_to(ties(row), number)


def steps_back(tied):
    return [(other, one) for one, other in reversed(tied)]


def led_to(steps, number):
    """The numbers to which these steps lead from number, one or more of them; rising."""
    found = {number}
    # Ties rise, and steps back fall, so all steps to a number stand ahead of those that go on from it.
    for start, goal in steps:
        if start in found:
            found.add(goal)
    found.discard(number)
    return tuple(sorted(found))


def free_of(left, tied):
    """Those of the numbers left to which none of them is tied ahead, in their order."""
    waiting = [other for one, other in tied if one in left]
    return [number for number in left if number not in waiting]


def early_begins(tied, lengths):
    """The least begins from 0 on, if each begins no earlier than all that are tied to it ahead end."""
    begins = [0] * len(lengths)
    # The ties rise, so the begin of one is settled before it is asked for.
    for one, other in tied:
        begins[other] = max(begins[other], begins[one] + lengths[one])
    return begins


def late_begins(tied, lengths, end):
    """The greatest begins, if each ends no later than all that are tied to it behind begin, and all by this end."""
    begins = [end - length for length in lengths]
    # The ties fall here, so the begin of other is settled before it is asked for.
    for one, other in reversed(tied):
        begins[one] = min(begins[one], begins[other] - lengths[one])
    return begins


def bare_ties(row):
    tied = ties(row)
    back = steps_back(tied)
    ahead_of = [led_to(back, number) for number in range(len(row))]
    return tuple(tie for tie in tied if is_bare(tie, ahead_of))


def is_bare(tie, ahead_of):
    one, other = tie
    return not any(one in ahead_of[third] for third in ahead_of[other])


def longest_chain(row):
    tied = ties(row)
    chain_from = {}
    for number in reversed(range(len(row))):
        rests = [chain_from[other] for one, other in tied if one == number]
        chain_from[number] = (number,) + longest_of(rests)
    return longest_of(list(chain_from.values()))


def longest_of(chains):
    """The longest chain, of several the least; without chains the empty one."""
    return min(chains, key=lambda chain: (-len(chain), chain), default=())
