"""Needs: on which deeds, and on which cells, the worths behind a row hang."""

from sidedeeds.deeds import cells_of, reads, writers, writes


def hung_on(row, cells):
    """The numbers of the deeds on which the worths of these cells hang, and the cells ahead of the row; both rising."""
    numbers = []
    asked = list(cells)
    for number in reversed(range(len(row))):
        wrote = writes(row[number])
        if any(cell in wrote for cell in asked):
            numbers.append(number)
            # What it reads is asked for even if it writes that, too: it reads the worths ahead of it.
            asked = [cell for cell in asked if cell not in wrote] + list(reads(row[number]))
    return tuple(reversed(numbers)), tuple(sorted(set(asked)))


def needed(row, cells):
    numbers, sourced = hung_on(row, cells)
    return numbers


def in_vain(row):
    # Cells that no deed touches hang on none, so these are as good as all.
    kept = needed(row, cells_of(row))
    return tuple(number for number in range(len(row)) if number not in kept)


def slim(row):
    left_out = in_vain(row)
    return tuple(deed for number, deed in enumerate(row) if number not in left_out)


def sources(row, cells):
    numbers, sourced = hung_on(row, cells)
    return sourced


def flows(row):
    asked = [(number, cell) for number, deed in enumerate(row) for cell in reads(deed)]
    return tuple((number, cell, last_writer(row[:number], cell)) for number, cell in asked)


def last_writer(row, cell):
    return max(writers(row, cell), default=None)
