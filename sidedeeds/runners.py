"""Runners: deeds that begin and end over a store, with locks."""

from sidedeeds.deeds import cells_of, number_of, written_by
from sidedeeds.errors import Locked, NameTaken, NoDeed
from sidedeeds.forms import worth_of
from sidedeeds.stores import with_parts
from sidedeeds.ties import are_tied


class Runner:
    """Deeds over a store, of which some are open, and some have ended."""

    def __init__(self, store):
        self.worths = store
        # For each open deed, as they began, the deed and the parts that its end is to write.
        self.opened = ()
        self.ended = ()
        # What the three were ahead of each step that was not taken back.
        self.past = []

    def begin(self, deed):
        name, ticks, parts = deed
        if name in names_of(self.open_deeds() + self.ended):
            raise NameTaken(f"{name} is open or has ended")
        for other in self.open_deeds():
            if are_tied(deed, other):
                raise Locked(f"{name} is tied to the open {other[0]}")
        self.step_to(self.worths, self.opened + ((deed, settled(self.worths, parts)),), self.ended)

    def end(self, name):
        number = number_of(self.open_deeds(), name)
        deed, parts = self.opened[number]
        self.step_to(with_parts(self.worths, parts), without_place(self.opened, number), self.ended + (deed,))

    def drop(self, name):
        number = number_of(self.open_deeds(), name)
        self.step_to(self.worths, without_place(self.opened, number), self.ended)

    def undo(self):
        if not self.past:
            raise NoDeed("there is no step to take back")
        self.worths, self.opened, self.ended = self.past.pop()

    def store(self):
        return self.worths

    def going_on(self):
        return names_of(self.open_deeds())

    def log(self):
        return self.ended

    def locked(self):
        return written_by(self.open_deeds()), cells_of(self.open_deeds())

    def open_deeds(self):
        return tuple(deed for deed, parts in self.opened)

    def step_to(self, worths, opened, ended):
        self.past.append((self.worths, self.opened, self.ended))
        self.worths, self.opened, self.ended = worths, opened, ended


def names_of(row):
    return tuple(name for name, ticks, parts in row)


def without_place(things, place):
    return things[:place] + things[place + 1:]


def settled(store, parts):
    """The parts with forms that are what these are worth now, whatever the store becomes."""
    worths = dict(store)
    return tuple((cell, (worth_of(form, worths), ())) for cell, form in parts)
