"""Things of all kinds, and forms, deeds, rows and stores at hand, made anew the same way each time."""

import copy
import random

CELLS = "abcdefgh"
ATOMS = (0, 1, -1, 2, 9, 10, 99, 100, True, False, None, "", "a", "b", "h", "i", "ab", "abcde", "A", " ", "1")


def any_thing(dice, deep):
    """A thing of the kinds that [0.3] lets callers ask of, at most so deep."""
    if deep == 0 or dice.random() < 0.3:
        return dice.choice(ATOMS)
    inner = [any_thing(dice, deep - 1) for _ in range(dice.randrange(4))]
    return inner if dice.random() < 0.3 else tuple(inner)


def some_form(dice, number=99, most=9):
    cells = sorted(dice.sample(CELLS, dice.randrange(5)))
    counts = [many for many in range(-most, most + 1) if many != 0]
    return dice.randint(-number, number), tuple((cell, dice.choice(counts)) for cell in cells)


def some_deed(dice, name):
    cells = sorted(dice.sample(CELLS, dice.randint(1, 4)))
    return name, dice.randint(1, 9), tuple((cell, some_form(dice)) for cell in cells)


def some_row(dice, many):
    return tuple(some_deed(dice, "d" + CELLS[at % 8] + CELLS[at // 8]) for at in range(many))


def deed(name, wrote, read=""):
    """A deed that writes these cells, each by a form that reads those."""
    form = (1, tuple((cell, 1) for cell in read))
    return name, 1, tuple((cell, form) for cell in wrote)


def some_light_row(dice, many):
    """A row whose deeds have few cells, so that some are tied and some are not."""
    row = []
    for at in range(many):
        cells = sorted(dice.sample(CELLS, dice.choice((1, 1, 2))))
        parts = []
        for cell in cells:
            read = sorted(dice.sample(CELLS, dice.randrange(3)))
            parts.append((cell, (dice.randint(-9, 9), tuple((other, dice.choice((-2, -1, 1, 2))) for other in read))))
        row.append(("l" + CELLS[at % 8] + CELLS[at // 8], dice.randint(1, 9), tuple(parts)))
    return tuple(row)


def some_loose_row(dice, many, most=9):
    """A row with few ties, whose deeds take up to so many ticks: each writes one cell and reads at most one."""
    row = []
    for letter in "abcdefghij"[:many]:
        read = dice.choice(("", dice.choice(CELLS)))
        row.append(("x" + letter, dice.randint(1, most), deed("", dice.choice(CELLS), read)[2]))
    return tuple(row)


def tied_by_the_words(one, other):
    wrote = [{part[0] for part in each[2]} for each in (one, other)]
    read = [{cell for part in each[2] for cell, many in part[1][1]} for each in (one, other)]
    return bool(wrote[0] & (read[1] | wrote[1]) or wrote[1] & (read[0] | wrote[0]))


def renamed_at_random(dice, row):
    """The row with unlike names of 1 to 4 letters, in no order."""
    names = []
    while len(names) < len(row):
        name = "".join(dice.choice("abz") for _ in range(dice.randint(1, 4)))
        if name not in names:
            names.append(name)
    return tuple((name, ticks, parts) for name, (_, ticks, parts) in zip(names, row))


def some_store(dice):
    cells = sorted(dice.sample(CELLS, dice.randrange(9)))
    return tuple((cell, dice.choice((-1000, -7, -2, -1, 1, 2, 3, 50, 10 ** 20))) for cell in cells)


def places(thing, trail=()):
    """The way to each thing that stands in a tuple, from the outside in; the whole first."""
    yield trail
    if isinstance(thing, tuple):
        for at, inner in enumerate(thing):
            yield from places(inner, trail + (at,))


def at_place(thing, trail):
    for at in trail:
        thing = thing[at]
    return thing


def exchanged(thing, trail, new):
    """The thing with another one at this place."""
    if not trail:
        return new
    at = trail[0]
    return thing[:at] + (exchanged(thing[at], trail[1:], new),) + thing[at + 1:]


def dice_of(seed):
    return random.Random(seed)


class AskedOfAnyThing:
    """For a test case of is_form, is_deed, is_row or is_store.

    `asked` is the function, `good` a thing of which it is True, `wrong` what may stand at no place in it.
    """

    asked = None
    good = None
    wrong = (None, "", "abcde", (0,), [], True, False, 100, -100)

    def yes(self, thing):
        self.assertIs(self.asked(thing), True, repr(thing))

    def no(self, thing):
        self.assertIs(self.asked(thing), False, repr(thing))

    def test_lists_are_no_tuples_at_any_place(self):
        for trail in places(self.good):
            inner = at_place(self.good, trail)
            if isinstance(inner, tuple):
                self.no(exchanged(self.good, trail, list(inner)))

    def test_other_kinds_at_any_place(self):
        self.yes(self.good)
        for trail in places(self.good):
            for new in self.wrong:
                self.no(exchanged(self.good, trail, new))

    def test_any_thing_without_an_error_and_unchanged(self):
        dice = dice_of(1)
        things = list(ATOMS) + [any_thing(dice, 8) for _ in range(5000)]
        for trail in places(self.good):
            things.extend(exchanged(self.good, trail, any_thing(dice, 5)) for _ in range(30))
        for thing in things:
            before = copy.deepcopy(thing)
            told = self.asked(thing)
            self.assertIsInstance(told, bool)
            self.assertIs(self.asked(thing), told)
            self.assertEqual(repr(thing), repr(before))
