"""Forms: a number, and so many times the worths of cells, together."""

from sidedeeds.kinds import are_cell_pairs, is_tuple_of, is_whole_within

MOST_NUMBER = 99
MOST_TIMES = 9


def is_form(thing):
    if not is_tuple_of(thing, 2):
        return False
    number, terms = thing
    if not is_whole_within(number, -MOST_NUMBER, MOST_NUMBER):
        return False
    return are_cell_pairs(terms) and all(is_term_times(many) for cell, many in terms)


def is_term_times(thing):
    return is_whole_within(thing, -MOST_TIMES, MOST_TIMES) and thing != 0


def form_of(number, many_by_cell):
    cells = [cell for cell in sorted(many_by_cell) if many_by_cell[cell] != 0]
    return number, tuple((cell, many_by_cell[cell]) for cell in cells)


def form_of_cell(cell):
    return 0, ((cell, 1),)


def plus(one, other):
    many_by_cell = dict(one[1])
    for cell, many in other[1]:
        many_by_cell[cell] = many_by_cell.get(cell, 0) + many
    return form_of(one[0] + other[0], many_by_cell)


def times(form, many):
    number, terms = form
    return form_of(number * many, {cell: each * many for cell, each in terms})


def put_in(form, table):
    """The form with the table's forms in place of its cells, all at once."""
    number, terms = form
    told = (number, ())
    for cell, many in terms:
        told = plus(told, times(table.get(cell, form_of_cell(cell)), many))
    return told


def worth_of(form, table):
    number, terms = form
    return number + sum([many * table.get(cell, 0) for cell, many in terms])
