"""[6.1] over [0.2] (c): what rows do to every store, told by forms, and what follows from that."""

import copy
import itertools
import unittest

from sidedeeds.deeds import is_deed
from sidedeeds.maps import are_alike, commute, is_idle, joined, loose_ties, map_of, parting_store
from sidedeeds.orders import are_same, least_row, normal
from sidedeeds.stores import done, run, worth_at
from sidedeeds.ties import are_tied, ties
from things import CELLS, dice_of, some_deed, some_light_row, some_row, some_store


def put(name, cell, number, **terms):
    """A deed that writes one cell."""
    return name, 1, ((cell, (number, tuple(sorted(terms.items())))),)


SWAP = ("swap", 1, (("a", (0, (("b", 1),))), ("b", (0, (("a", 1),)))))
RING = ("ring", 2, (("a", (0, (("b", 1),))), ("b", (0, (("c", 1),))), ("c", (0, (("a", 1),)))))
KEEP = ("keep", 1, (("a", (0, (("a", 1),))), ("h", (0, (("h", 1),)))))
UP, DOWN = put("up", "a", 3, a=1), put("down", "a", -3, a=1)


def map_by_worths(row):
    """The map as the worths behind the row tell it: those of the store () and of each cell with the worth 1."""
    base = run((), row)
    told = []
    for cell in CELLS:
        number = worth_at(base, cell)
        times = [(other, worth_at(run(((other, 1),), row), cell) - number) for other in CELLS]
        form = (number, tuple((other, many) for other, many in times if many))
        if form != (0, ((cell, 1),)):
            told.append((cell, form))
    return tuple(told)


def small_rows(dice, many, most=3):
    """Rows of few cells, numbers and times, so that many do the same."""
    deeds = []
    for cell, other in itertools.product("ab", "abc"):
        deeds.append(put(f"c{cell}{other}", cell, 0, **{other: 1}))
        deeds.append(put(f"n{cell}{other}", cell, 0, **{other: -1}))
    deeds += [put(f"z{cell}", cell, 0) for cell in "ab"] + [put(f"i{cell}", cell, 1, **{cell: 1}) for cell in "ab"]
    deeds += [put(f"d{cell}", cell, -1, **{cell: 1}) for cell in "ab"] + [SWAP, KEEP]
    return [tuple(dice.sample(deeds, dice.randint(0, most))) for _ in range(many)]


class MapOf(unittest.TestCase):
    def test_no_deeds(self):
        self.assertEqual(map_of(()), ())

    def test_one_deed(self):
        self.assertEqual(map_of((UP,)), (("a", (3, (("a", 1),))),))
        self.assertEqual(map_of((put("x", "h", -5),)), (("h", (-5, ())),))
        self.assertEqual(map_of((put("x", "h", 0),)), (("h", (0, ())),))
        self.assertEqual(map_of((put("x", "c", 0, d=1),)), (("c", (0, (("d", 1),))),))

    def test_of_the_worths_ahead(self):
        row = (put("x", "a", 5, c=2), put("y", "b", 1, a=3, c=-6), put("z", "a", 0, a=-1, b=1))
        self.assertEqual(map_of(row[:2]), (("a", (5, (("c", 2),))), ("b", (16, ()))))
        self.assertEqual(map_of(row), (("a", (11, (("c", -2),))), ("b", (16, ()))))

    def test_deeds_that_keep_worths_leave_no_pair(self):
        self.assertEqual(map_of((KEEP,)), ())
        self.assertEqual(map_of((KEEP, UP, KEEP)), map_of((UP,)))
        part = ("x", 1, (("a", (0, (("a", 1),))), ("b", (1, ()))))
        self.assertEqual(map_of((part,)), (("b", (1, ())),))

    def test_a_cell_set_and_set_back(self):
        self.assertEqual(map_of((UP, DOWN)), ())
        self.assertEqual(map_of((put("x", "a", 0, a=-1), put("y", "a", 0, a=-1))), ())
        self.assertEqual(map_of((put("x", "b", 0, a=1), put("y", "a", 0), put("z", "a", 0, b=1))),
                         (("b", (0, (("a", 1),))),))

    def test_once_and_minus_once_are_not_the_same(self):
        self.assertEqual(map_of((put("x", "a", 0, a=-1),)), (("a", (0, (("a", -1),))),))
        self.assertEqual(map_of((put("x", "a", 0, a=2),)), (("a", (0, (("a", 2),))),))
        self.assertEqual(map_of((put("x", "a", 0, a=1, b=1),)), (("a", (0, (("a", 1), ("b", 1)))),))

    def test_two_cells_exchanged_and_exchanged_again(self):
        self.assertEqual(map_of((SWAP,)), (("a", (0, (("b", 1),))), ("b", (0, (("a", 1),)))))
        self.assertEqual(map_of((SWAP, SWAP)), ())
        self.assertEqual(map_of((SWAP, SWAP, SWAP)), map_of((SWAP,)))

    def test_three_cells_round_a_ring(self):
        told = (("a", (0, (("c", 1),))), ("b", (0, (("a", 1),))), ("c", (0, (("b", 1),))))
        self.assertEqual(map_of((RING, RING)), told)
        self.assertEqual(map_of((RING, RING, RING)), ())

    def test_numbers_and_times_greater_than_those_of_a_form(self):
        row = tuple(put("x" + name, "a", 99, a=9, b=-9) for name in "abc")
        self.assertEqual(map_of(row[:2]), (("a", (990, (("a", 81), ("b", -90)))),))
        self.assertEqual(map_of(row), (("a", (9009, (("a", 729), ("b", -819)))),))
        long = tuple(put("x" + name, "a", 0, a=9) for name in "abcdefghij")
        self.assertEqual(map_of(long), (("a", (0, (("a", 9 ** 10),))),))
        self.assertEqual(map_of(long * 3), (("a", (0, (("a", 9 ** 30),))),))

    def test_cells_rise(self):
        row = tuple(put("x" + cell, cell, 1) for cell in "hbgacfed")
        self.assertEqual(map_of(row), tuple((cell, (1, ())) for cell in CELLS))

    def test_terms_rise(self):
        row = (put("x", "a", 0, h=1, b=1), put("y", "c", 0, a=1, d=1))
        self.assertEqual(map_of(row)[1], ("c", (0, (("b", 1), ("d", 1), ("h", 1)))))


class AreAlike(unittest.TestCase):
    def both_ways(self, one, other, told):
        self.assertIs(are_alike(one, other), told)
        self.assertIs(are_alike(other, one), told)

    def test_to_itself(self):
        for row in ((), (UP,), (SWAP, UP), (KEEP,)):
            self.both_ways(row, row, True)

    def test_rows_that_do_the_same(self):
        self.both_ways((), (UP, DOWN), True)
        self.both_ways((), (KEEP,), True)
        self.both_ways((UP, DOWN), (SWAP, SWAP), True)
        self.both_ways((UP,), (put("x", "a", 1, a=1), put("y", "a", 2, a=1)), True)

    def test_over_a_third_row(self):
        one, other, third = (UP, DOWN, SWAP), (SWAP,), (KEEP, SWAP, RING, RING, RING)
        self.both_ways(one, other, True)
        self.both_ways(other, third, True)
        self.both_ways(one, third, True)

    def test_names_and_ticks_do_not_count(self):
        self.both_ways((UP,), (("x", 9) + UP[2:],), True)

    def test_rows_that_do_not(self):
        self.both_ways((), (UP,), False)
        self.both_ways((UP,), (DOWN,), False)
        self.both_ways((UP, SWAP), (SWAP, UP), False)
        self.both_ways((put("x", "a", 0, b=1),), (put("x", "a", 0, c=1),), False)
        self.both_ways((put("x", "a", 0, b=1),), (put("x", "a", 0, b=2),), False)
        self.both_ways((put("x", "a", 1),), (put("x", "b", 1),), False)


class PartingStore(unittest.TestCase):
    def both_ways(self, one, other, told):
        self.assertEqual(parting_store(one, other), told)
        self.assertEqual(parting_store(other, one), told)

    def test_the_store_without_cells(self):
        self.both_ways((), (UP,), ())
        self.both_ways((UP,), (DOWN,), ())
        # The worth 1 of a parts these two as well, but the store () comes first.
        self.both_ways((put("x", "b", 1, a=1),), (put("x", "b", 2, a=5),), ())

    def test_the_first_cell_that_parts(self):
        self.both_ways((put("x", "a", 0, b=1),), (put("x", "a", 0, c=1),), (("b", 1),))
        self.both_ways((put("x", "a", 0, c=1, h=1),), (put("x", "a", 0, c=1, h=2),), (("h", 1),))
        self.both_ways((put("x", "a", 7, c=1, d=1),), (put("x", "a", 7, c=2, d=2),), (("c", 1),))
        self.both_ways((SWAP,), (), (("a", 1),))
        self.both_ways((), (put("x", "h", 0),), (("h", 1),))
        self.both_ways((), (put("x", "g", 0), put("y", "h", 0)), (("g", 1),))

    def test_a_cell_that_only_one_of_both_touches(self):
        self.both_ways((put("x", "b", 0),), (put("x", "b", 0, a=1),), (("a", 1),))

    def test_none_of_rows_that_are_alike(self):
        for one, other in (((), ()), ((UP, DOWN), ()), ((SWAP,), (SWAP, SWAP, SWAP)), ((KEEP,), ()), ((UP,), (UP,))):
            self.assertIsNone(parting_store(one, other))
            self.assertIsNone(parting_store(other, one))


class Commute(unittest.TestCase):
    def both_ways(self, one, other, told):
        self.assertIs(commute(one, other), told)
        self.assertIs(commute(other, one), told)

    def test_deeds_that_are_not_tied(self):
        self.both_ways(UP, put("x", "b", 1), True)

    def test_tied_ones_that_commute(self):
        self.both_ways(UP, DOWN, True)
        self.both_ways(UP, KEEP, True)
        self.both_ways(SWAP, SWAP, True)
        self.both_ways(put("x", "a", 5), put("y", "a", 5), True)
        self.both_ways(put("x", "a", 0, a=2), put("y", "a", 0, a=3), True)
        # One adds to a what the other adds as well, of a cell that neither writes.
        self.both_ways(put("x", "a", 0, a=1, b=1), put("y", "a", 0, a=1, c=4), True)

    def test_tied_ones_that_do_not(self):
        self.both_ways(UP, SWAP, False)
        self.both_ways(UP, put("x", "a", 0, a=2), False)
        self.both_ways(put("x", "a", 5), put("y", "a", 6), False)
        self.both_ways(put("x", "a", 5), put("y", "b", 0, a=1), False)

    def test_tied_ones_that_commute_from_some_stores_only(self):
        # From the store () both orders lead to the same.
        self.both_ways(put("x", "a", 0, b=1), put("y", "b", 0), False)
        self.assertEqual(run((), (put("x", "a", 0, b=1), put("y", "b", 0))), ())


class IsIdle(unittest.TestCase):
    def test_deeds_that_keep_all_worths(self):
        self.assertIs(is_idle(KEEP), True)
        self.assertIs(is_idle(put("x", "d", 0, d=1)), True)

    def test_others(self):
        for deed in (UP, SWAP, RING, put("x", "a", 0), put("x", "a", 1, a=1), put("x", "a", 0, b=1),
                     put("x", "a", 0, a=-1), put("x", "a", 0, a=1, b=1),
                     ("x", 1, (("a", (0, (("a", 1),))), ("b", (0, (("a", 1),)))))):
            self.assertIs(is_idle(deed), False, deed)


class LooseTies(unittest.TestCase):
    def test_only_ties_whose_deeds_commute(self):
        row = (UP, put("x", "b", 1), DOWN, put("y", "a", 0, a=2), KEEP)
        self.assertEqual(ties(row), ((0, 2), (0, 3), (0, 4), (2, 3), (2, 4), (3, 4)))
        self.assertEqual(loose_ties(row), ((0, 2), (0, 4), (2, 4), (3, 4)))

    def test_deeds_that_commute_without_a_tie_are_none(self):
        row = (UP, put("x", "b", 1), put("y", "c", 1, h=1))
        self.assertEqual(loose_ties(row), ())

    def test_none(self):
        self.assertEqual(loose_ties(()), ())
        self.assertEqual(loose_ties((UP,)), ())
        self.assertEqual(loose_ties((UP, SWAP)), ())


class Joined(unittest.TestCase):
    def test_name_ticks_and_parts(self):
        row = (put("x", "a", 5, c=2), put("y", "b", 1, a=3))
        self.assertEqual(joined("xy", 4, row), ("xy", 4, (("a", (5, (("c", 2),))), ("b", (16, (("c", 6),))))))

    def test_parts_for_cells_that_keep_their_worth(self):
        self.assertEqual(joined("x", 1, (UP, DOWN)), ("x", 1, (("a", (0, (("a", 1),))),)))
        self.assertEqual(joined("x", 1, (KEEP,)), ("x", 1, KEEP[2]))
        self.assertEqual(joined("x", 1, (KEEP, put("y", "c", 1))), ("x", 1, (KEEP[2][0], ("c", (1, ())), KEEP[2][1])))
        self.assertEqual(joined("x", 1, (SWAP, SWAP)), ("x", 1, (("a", (0, (("a", 1),))), ("b", (0, (("b", 1),))))))

    def test_one_deed(self):
        self.assertEqual(joined("swap", 1, (SWAP,)), SWAP)

    def test_no_deeds(self):
        self.assertEqual(joined("x", 3, ()), ("x", 3, ()))
        self.assertEqual(done((("a", 4),), joined("x", 3, ())), (("a", 4),))

    def test_more_parts_than_a_deed_has_and_cells_rising(self):
        row = tuple(put("x" + cell, cell, 1) for cell in "hbgacfed")
        told = joined("much", 9, row)
        self.assertEqual(told, ("much", 9, tuple((cell, (1, ())) for cell in CELLS)))
        self.assertIs(is_deed(told), False)

    def test_joined_deeds_may_be_handed_in_again(self):
        row = tuple(put("x" + cell, cell, 99, a=9) for cell in "hgfedcba")
        told = joined("much", 9, row)
        self.assertEqual(map_of((told,)), map_of(row))
        self.assertEqual(joined("more", 1, (told, told)), ("more", 1, joined("x", 1, row * 2)[2]))
        self.assertIs(is_idle(told), False)
        self.assertIs(commute(told, told), True)


class AgainstTheWords(unittest.TestCase):
    def rows(self, seed):
        dice = dice_of(seed)
        for _ in range(100):
            yield some_light_row(dice, dice.randrange(11))
        for _ in range(40):
            yield some_row(dice, dice.randrange(11))
        yield from small_rows(dice, 100)

    def test_maps(self):
        dice = dice_of(41)
        for row in self.rows(42):
            before = copy.deepcopy(row)
            told = map_of(row)
            self.assertEqual(told, map_by_worths(row))
            self.assertEqual(map_of(row), told)
            self.assertEqual(row, before)
            for _ in range(3):
                store = some_store(dice)
                # The map, done as one deed, does what the row does.
                self.assertEqual(done(store, ("map", 1, told)), run(store, row))

    def test_alike_just_if_they_do_the_same_to_every_store(self):
        dice = dice_of(43)
        rows = small_rows(dice, 60)
        many = 0
        for one, other in itertools.combinations(rows, 2):
            alike = map_by_worths(one) == map_by_worths(other)
            many += alike
            self.assertIs(are_alike(one, other), alike)
            store = parting_store(one, other)
            if alike:
                self.assertIsNone(store)
                at_hand = some_store(dice)
                self.assertEqual(run(at_hand, one), run(at_hand, other))
            else:
                stores = [()] + [((cell, 1),) for cell in CELLS]
                self.assertEqual(store, [each for each in stores if run(each, one) != run(each, other)][0])
        self.assertGreater(many, 50)

    def test_the_same_rows_are_alike(self):
        for row in self.rows(44):
            for other in (normal(row), least_row(row)):
                self.assertIs(are_same(row, other), True)
                self.assertIs(are_alike(row, other), True)
                self.assertIsNone(parting_store(row, other))

    def test_loose_ties_are_ties(self):
        loose = 0
        for row in [*self.rows(45), *small_rows(dice_of(49), 40, 8)]:
            told = loose_ties(row)
            loose += len(told)
            pairs = itertools.combinations(range(len(row)), 2)
            self.assertEqual(told, tuple(
                (one, other) for one, other in pairs if are_tied(row[one], row[other])
                and map_by_worths((row[one], row[other])) == map_by_worths((row[other], row[one]))))
            self.assertTrue(set(told) <= set(ties(row)))
        self.assertGreater(loose, 20)

    def test_joined_does_what_the_row_does(self):
        dice = dice_of(46)
        for row in self.rows(47):
            name, ticks, parts = told = joined("join", 7, row)
            self.assertEqual((name, ticks), ("join", 7))
            wrote = {cell for each in row for cell, form in each[2]}
            self.assertEqual([cell for cell, form in parts], sorted(wrote))
            self.assertEqual(map_of((told,)), map_of(row))
            for _ in range(3):
                store = some_store(dice)
                self.assertEqual(done(store, told), run(store, row))

    def test_idle_deeds_change_no_store(self):
        dice = dice_of(48)
        for _ in range(100):
            deed = some_deed(dice, "x")
            self.assertIs(is_idle(deed), map_by_worths((deed,)) == ())


if __name__ == "__main__":
    unittest.main()
