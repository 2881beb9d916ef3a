"""Rounds: which deeds of a row can go side by side."""

from sidedeeds.deeds import has_number, missing_from
from sidedeeds.errors import BadRounds
from sidedeeds.stores import done_at_once
from sidedeeds.ties import early_begins, free_of, late_begins, ties


def rounds(row):
    return gathered(early_places(row))


def late_rounds(row):
    return gathered(late_places(row))


def early_places(row):
    """For each deed the number of its round in rounds."""
    # A round is a step of length 1.
    return early_begins(ties(row), [1] * len(row))


def late_places(row):
    """For each deed the number of its round in late_rounds."""
    many = len(gathered(early_places(row)))
    return late_begins(ties(row), [1] * len(row), many)


def gathered(places):
    many = max(places, default=-1) + 1
    return tuple(numbers_at(places, at) for at in range(many))


def numbers_at(places, at):
    return tuple(number for number, place in enumerate(places) if place == at)


def fixed(row):
    early = early_places(row)
    late = late_places(row)
    return tuple(number for number in range(len(row)) if early[number] == late[number])


def why_not(row, some):
    place_of = {}
    for place, numbers in enumerate(some):
        for number in numbers:
            if not has_number(row, number):
                return "none", number
            if number in place_of:
                return "twice", number
            place_of[number] = place
    missing = missing_from(row, place_of)
    if missing is not None:
        return "missing", missing
    return why_not_tied(row, place_of)


def why_not_tied(row, place_of):
    for one, other in ties(row):
        if place_of[one] == place_of[other]:
            return "side", one, other
        if place_of[one] > place_of[other]:
            return "order", one, other
    return None


def are_rounds(row, some):
    return why_not(row, some) is None


def run_rounds(store, row, some):
    fault = why_not(row, some)
    if fault is not None:
        raise BadRounds(f"the rounds have the fault {fault}")
    for numbers in some:
        store = done_at_once(store, tuple(row[number] for number in numbers))
    return store


def narrow(row, many):
    tied = ties(row)
    left = list(range(len(row)))
    told = []
    while left:
        # Rounds of less than one deed would never come to an end.
        taken = free_of(left, tied)[:max(1, many)]
        told.append(tuple(taken))
        left = [number for number in left if number not in taken]
    return tuple(told)


def widest(row):
    return max([len(numbers) for numbers in rounds(row)], default=0)
