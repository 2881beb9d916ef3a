"""Stores: the worths of cells, and what deeds make of them."""

from sidedeeds.errors import Clash
from sidedeeds.forms import worth_of
from sidedeeds.kinds import are_cell_pairs, is_whole


def is_store(thing):
    return are_cell_pairs(thing) and all(is_store_worth(worth) for cell, worth in thing)


def is_store_worth(thing):
    return is_whole(thing) and thing != 0


def store_of(worth_by_cell):
    cells = [cell for cell in sorted(worth_by_cell) if worth_by_cell[cell] != 0]
    return tuple((cell, worth_by_cell[cell]) for cell in cells)


def worth_at(store, cell):
    return dict(store).get(cell, 0)


def with_parts(store, parts):
    """The store behind these parts, which all read it as it was."""
    worths_ahead = dict(store)
    worths_behind = dict(store)
    for cell, form in parts:
        worths_behind[cell] = worth_of(form, worths_ahead)
    return store_of(worths_behind)


def done(store, deed):
    name, ticks, parts = deed
    return with_parts(store, parts)


def run(store, row):
    for deed in row:
        store = done(store, deed)
    return store


def trail(store, row):
    told = [store]
    for deed in row:
        told.append(done(told[-1], deed))
    return tuple(told)


def done_at_once(store, deeds):
    parts = [part for deed in deeds for part in deed[2]]
    cells = [cell for cell, form in parts]
    for at, cell in enumerate(cells):
        if cell in cells[:at]:
            raise Clash(f"two of the deeds write {cell}")
    return with_parts(store, parts)
