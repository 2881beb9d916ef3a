"""Maps: what a row does to every store, told by forms."""

from sidedeeds.deeds import cells_of
from sidedeeds.forms import form_of_cell, put_in
from sidedeeds.stores import run
from sidedeeds.ties import ties


def forms_behind(row):
    """For each cell that the row writes the form, of the worths ahead, that is its worth behind."""
    told = {}
    for name, ticks, parts in row:
        # All forms of a deed are worth what they are ahead of it, so none may see what the others tell.
        told.update({cell: put_in(form, told) for cell, form in parts})
    return told


def map_of(row):
    told = forms_behind(row)
    return tuple((cell, told[cell]) for cell in sorted(told) if told[cell] != form_of_cell(cell))


def are_alike(one, other):
    return map_of(one) == map_of(other)


def parting_store(one, other):
    # Forms that are worth the same in these stores have the same number and the same terms.
    stores = [()] + [((cell, 1),) for cell in cells_of(one + other)]
    for store in stores:
        if run(store, one) != run(store, other):
            return store
    return None


def commute(one, other):
    return are_alike((one, other), (other, one))


def is_idle(deed):
    return map_of((deed,)) == ()


def loose_ties(row):
    return tuple((one, other) for one, other in ties(row) if commute(row[one], row[other]))


def joined(name, ticks, row):
    told = forms_behind(row)
    return name, ticks, tuple((cell, told[cell]) for cell in sorted(told))
