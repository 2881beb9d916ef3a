"""Deeds and rows of deeds: what they are, and which cells they read and write."""

from sidedeeds.errors import NoDeed
from sidedeeds.forms import is_form
from sidedeeds.kinds import are_cell_pairs, is_tuple_of, is_whole_within

MOST_LETTERS = 4
MOST_TICKS = 9
MOST_PARTS = 4
MOST_DEEDS = 10


def is_name(thing):
    if not isinstance(thing, str) or not 1 <= len(thing) <= MOST_LETTERS:
        return False
    return all("a" <= sign <= "z" for sign in thing)


def are_parts(thing):
    if not are_cell_pairs(thing) or not 1 <= len(thing) <= MOST_PARTS:
        return False
    return all(is_form(form) for cell, form in thing)


def is_deed(thing):
    if not is_tuple_of(thing, 3):
        return False
    name, ticks, parts = thing
    return is_name(name) and is_whole_within(ticks, 1, MOST_TICKS) and are_parts(parts)


def is_row(thing):
    if not isinstance(thing, tuple) or len(thing) > MOST_DEEDS:
        return False
    if not all(is_deed(deed) for deed in thing):
        return False
    return are_unlike_names(thing)


def are_unlike_names(row):
    return len({deed[0] for deed in row}) == len(row)


def reads(deed):
    name, ticks, parts = deed
    return tuple(sorted({read for cell, form in parts for read, many in form[1]}))


def writes(deed):
    name, ticks, parts = deed
    return tuple(cell for cell, form in parts)


def cells_of(row):
    return tuple(sorted({cell for deed in row for cell in reads(deed) + writes(deed)}))


def written_by(row):
    return tuple(sorted({cell for deed in row for cell in writes(deed)}))


def has_number(row, number):
    return is_whole_within(number, 0, len(row) - 1)


def missing_from(row, numbers):
    """The least number of a deed that is not among these; None, if all are."""
    return min([number for number in range(len(row)) if number not in numbers], default=None)


def number_of(row, name):
    for number, deed in enumerate(row):
        if deed[0] == name:
            return number
    raise NoDeed(f"no deed is called {name}")


def writers(row, cell):
    return tuple(number for number, deed in enumerate(row) if cell in writes(deed))


def readers(row, cell):
    return tuple(number for number, deed in enumerate(row) if cell in reads(deed))
