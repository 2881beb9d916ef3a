"""Merging: rows of two hands, brought into one."""

from sidedeeds.deeds import are_unlike_names, cells_of, written_by
from sidedeeds.errors import Clash, NameTaken


def clashes(one, other):
    return tuple(sorted(set(written_into(one, other) + written_into(other, one))))


def written_into(one, other):
    wrote = written_by(one)
    # All that other reads counts: what it reads only behind having written it, it writes.
    return [cell for cell in cells_of(other) if cell in wrote]


def merged(one, other):
    taken = [name for name, ticks, parts in one]
    for name, ticks, parts in other:
        if name in taken:
            raise NameTaken(f"{name} stands in both rows")
    clashing = clashes(one, other)
    if clashing:
        raise Clash(f"the rows clash at {clashing}")
    return one + other


def renamed(row, table):
    new_names = dict(table)
    told = tuple((new_names.get(name, name), ticks, parts) for name, ticks, parts in row)
    if not are_unlike_names(told):
        raise NameTaken("two deeds would be called alike")
    return told


def mixed(one, other, turns):
    told = ()
    for turn in turns:
        if turn:
            told += one[:1]
            one = one[1:]
        else:
            told += other[:1]
            other = other[1:]
    return told + one + other
