"""What forms, deeds and stores ask of things, which may be any."""

CELLS = "abcdefgh"


def is_whole(thing):
    # Python counts True and False as ints; here they are no numbers.
    return isinstance(thing, int) and not isinstance(thing, bool)


def is_whole_within(thing, low, high):
    return is_whole(thing) and low <= thing <= high


def is_cell(thing):
    # The length must be asked: the empty text and "ab" stand in CELLS, too.
    return isinstance(thing, str) and len(thing) == 1 and thing in CELLS


def is_tuple_of(thing, many):
    return isinstance(thing, tuple) and len(thing) == many


def is_cell_pair(thing):
    return is_tuple_of(thing, 2) and is_cell(thing[0])


def are_rising(cells):
    return all(cells[at] < cells[at + 1] for at in range(len(cells) - 1))


def are_cell_pairs(thing):
    """Whether thing is a tuple of pairs of a cell and whatever it be, cells rising."""
    if not isinstance(thing, tuple):
        return False
    if not all(is_cell_pair(pair) for pair in thing):
        return False
    return are_rising([pair[0] for pair in thing])
