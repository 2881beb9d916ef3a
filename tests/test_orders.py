"""[5.1] over [0.2] (b): rows that are the same, and the swaps that lead from one to the other."""

import copy
import itertools
import math
import time
import unittest

from sidedeeds.errors import NoDeed, SideError
from sidedeeds.orders import are_same, least_row, normal, orders_many, swapped, swaps
from sidedeeds.rounds import rounds
from sidedeeds.stores import run
from things import CELLS, deed, dice_of, renamed_at_random, some_light_row, some_store, tied_by_the_words

# s and q are tied, and p and r; t is tied to none.
S, P, Q, R, T = deed("s", "a"), deed("p", "b"), deed("q", "c", "a"), deed("r", "d", "b"), deed("t", "h")
ROW = (S, P, Q, R, T)
CHAIN = (deed("z", "a"), deed("y", "b", "a"), deed("x", "c", "b"), deed("w", "d", "c"))
ALONE = tuple(deed(name, cell) for name, cell in zip("hgfedcba", CELLS))


def names(row):
    return tuple(each[0] for each in row)


def swapped_by_the_words(row, at):
    return row[:at] + (row[at + 1], row[at]) + row[at + 2:]


def reached(row):
    """All rows to which swaps of neighbours that are not tied lead, with the fewest swaps to each."""
    fewest = {row: 0}
    waiting = [row]
    for here in waiting:
        for at in range(len(here) - 1):
            there = swapped_by_the_words(here, at)
            if there not in fewest and not tied_by_the_words(here[at], here[at + 1]):
                fewest[there] = fewest[here] + 1
                waiting.append(there)
    return fewest


def some_rows(seed, many, most):
    dice = dice_of(seed)
    for _ in range(many):
        yield renamed_at_random(dice, some_light_row(dice, dice.randrange(most + 1)))


class Normal(unittest.TestCase):
    def test_round_by_round_in_each_by_names(self):
        self.assertEqual(rounds(ROW), ((0, 1, 4), (2, 3)))
        self.assertEqual(normal(ROW), (P, S, T, Q, R))

    def test_rounds_come_before_names(self):
        self.assertEqual(normal(CHAIN), CHAIN)
        row = (deed("b", "a"), deed("a", "b", "a"), deed("c", "c"))
        self.assertEqual(names(normal(row)), ("b", "c", "a"))

    def test_names_of_unlike_lengths(self):
        row = tuple(deed(name, cell) for name, cell in zip(("b", "ab", "aab", "a", "aa", "ba"), CELLS))
        self.assertEqual(names(normal(row)), ("a", "aa", "aab", "ab", "b", "ba"))

    def test_ticks_and_parts_do_not_count(self):
        row = (("b", 1, (("a", (-9, ())),)), ("a", 9, (("h", (9, ())),)))
        self.assertEqual(normal(row), (row[1], row[0]))

    def test_deeds_stay_as_they_are(self):
        self.assertEqual(sorted(normal(ROW)), sorted(ROW))

    def test_no_deeds_and_one(self):
        self.assertEqual(normal(()), ())
        self.assertEqual(normal((S,)), (S,))

    def test_the_same_for_all_rows_that_are_the_same(self):
        for row in reached(ROW):
            self.assertEqual(normal(row), (P, S, T, Q, R))

    def test_normal_again(self):
        self.assertEqual(normal(normal(ROW)), normal(ROW))


class AreSame(unittest.TestCase):
    def both_ways(self, one, other, told):
        self.assertIs(are_same(one, other), told)
        self.assertIs(are_same(other, one), told)

    def test_to_itself(self):
        for row in ((), (S,), ROW, CHAIN, ALONE):
            self.both_ways(row, row, True)

    def test_swaps_of_untied_neighbours(self):
        self.both_ways(ROW, (P, S, Q, R, T), True)
        self.both_ways(ROW, (T, P, R, S, Q), True)
        self.both_ways(ALONE, ALONE[::-1], True)

    def test_two_tied_ones_exchanged(self):
        self.both_ways(ROW, (Q, P, S, R, T), False)
        self.both_ways(ROW, (S, R, Q, P, T), False)
        self.both_ways(CHAIN, (CHAIN[1], CHAIN[0]) + CHAIN[2:], False)
        # The two need be no neighbours, and may be tied over a third one only by steps.
        self.both_ways(CHAIN[:3], (CHAIN[2],) + CHAIN[:2], False)

    def test_two_that_only_write_one_cell_exchanged(self):
        self.both_ways((S, deed("x", "a")), (deed("x", "a"), S), False)

    def test_two_that_commute_but_are_tied(self):
        one, other = ("x", 1, (("a", (1, (("a", 1),))),)), ("y", 1, (("a", (2, (("a", 1),))),))
        self.both_ways((one, other), (other, one), False)

    def test_other_deeds(self):
        self.both_ways((S, P), (S, T), False)
        self.both_ways((S,), (P,), False)

    def test_other_lengths(self):
        self.both_ways((), (S,), False)
        self.both_ways(ROW, ROW[:4], False)
        self.both_ways(ROW, ROW[1:], False)

    def test_one_name_but_not_alike(self):
        self.both_ways((S, P), (S, ("p", 2, P[2])), False)
        self.both_ways((S, P), (S, ("p", 1, (("b", (2, ())),))), False)
        self.both_ways((S, P), (S, ("p", 1, (("c", (1, ())),))), False)

    def test_alike_but_for_the_name(self):
        self.both_ways((S, P), (S, ("o",) + P[1:]), False)

    def test_names_that_are_alike(self):
        self.both_ways((S, P, S), (S, S, P), True)
        self.both_ways((S, P, S), (S, P, P), False)
        other = ("s", 1, (("h", (1, ())),))
        self.both_ways((S, other, S), (S, S, other), True)
        self.both_ways((S, Q, S), (S, S, Q), False)

    def test_more_deeds(self):
        self.both_ways(ALONE * 2, ALONE[::-1] * 2, True)
        self.both_ways(ALONE * 2, ALONE[::-1] + ALONE[1:] + (S,), False)


class Swapped(unittest.TestCase):
    def test_this_and_the_next(self):
        self.assertEqual(swapped(ROW, 0), (P, S, Q, R, T))
        self.assertEqual(swapped(ROW, 1), (S, Q, P, R, T))
        self.assertEqual(swapped(ROW, 3), (S, P, Q, T, R))
        self.assertEqual(swapped((S, P), 0), (P, S))

    def test_none_of_tied_ones(self):
        for number in range(3):
            self.assertIsNone(swapped(CHAIN, number))
        self.assertIsNone(swapped((Q, S), 0))
        self.assertIsNone(swapped((S, deed("x", "a")), 0))

    def test_no_such_two(self):
        wrong = [(ROW, -1), (ROW, -2), (ROW, -5), (ROW, 4), (ROW, 5), (ROW, 6), (ROW, 100), ((), 0), ((), -1), ((), 1),
                 ((S,), 0), ((S,), -1), ((S,), 1), (CHAIN, -1), (CHAIN, 3)]
        for row, number in wrong:
            with self.subTest(row=row, number=number):
                with self.assertRaises(NoDeed) as caught:
                    swapped(row, number)
                self.assertIsInstance(caught.exception, SideError)

    def test_names_that_are_alike(self):
        self.assertEqual(swapped((S, P, S), 1), (S, S, P))


class Swaps(unittest.TestCase):
    def test_none_needed(self):
        for row in ((), (S,), ROW, CHAIN, ALONE):
            self.assertEqual(swaps(row, row), 0)

    def test_one_to_a_neighbour(self):
        for at in (0, 1, 3):
            other = swapped_by_the_words(ROW, at)
            self.assertEqual(swaps(ROW, other), 1)
            self.assertEqual(swaps(other, ROW), 1)

    def test_several(self):
        self.assertEqual(swaps(ROW, (T, S, P, Q, R)), 4)
        self.assertEqual(swaps(ROW, (P, R, S, Q, T)), 3)
        self.assertEqual(swaps(ALONE, ALONE[::-1]), 28)
        self.assertEqual(swaps(ALONE, ALONE[1:] + ALONE[:1]), 7)

    def test_none_leads_there(self):
        for other in ((Q, P, S, R, T), (S, R, Q, P, T), ROW[:4], (), ROW + (P,), ROW[:4] + (deed("t", "g"),)):
            self.assertIsNone(swaps(ROW, other))
            self.assertIsNone(swaps(other, ROW))

    def test_names_that_are_alike(self):
        self.assertEqual(swaps((P, S, S), (S, S, P)), 2)
        self.assertEqual(swaps((S, P, S), (S, S, P)), 1)
        self.assertEqual(swaps((S, S, P), (S, P, S)), 1)
        self.assertIsNone(swaps((S, S, P), (S, P, P)))


class OrdersMany(unittest.TestCase):
    def test_no_deeds_and_one(self):
        self.assertEqual(orders_many(()), 1)
        self.assertEqual(orders_many((S,)), 1)

    def test_deeds_without_ties(self):
        for many in range(9):
            self.assertEqual(orders_many(ALONE[:many]), math.factorial(many))

    def test_a_chain(self):
        for many in range(5):
            self.assertEqual(orders_many(CHAIN[:many]), 1)

    def test_some_ties(self):
        self.assertEqual(orders_many(ROW), 30)
        self.assertEqual(orders_many((S, P, deed("x", "c", "ab"))), 2)

    def test_names_that_are_alike(self):
        self.assertEqual(orders_many((S, P, S)), 3)

    def test_ten_deeds_in_little_time(self):
        begun = time.perf_counter()
        # Ten deeds that write none of the others' cells need two cells more than there are.
        alone = tuple(deed(name, cell) for name, cell in zip("abcdefghij", "abcdefghij"))
        self.assertEqual(orders_many(alone), math.factorial(10))
        row = ALONE + (deed("y", "a"), deed("z", "b"))
        self.assertEqual(orders_many(row), math.factorial(10) // 4)
        self.assertLess(time.perf_counter() - begun, 5)


class LeastRow(unittest.TestCase):
    def test_the_least_names_deed_by_deed(self):
        self.assertEqual(least_row(ROW), (P, R, S, Q, T))
        self.assertEqual(names(least_row(ALONE)), tuple("abcdefgh"))

    def test_tied_ones_stay(self):
        self.assertEqual(least_row(CHAIN), CHAIN)
        # d must be ahead of a, so c is the least that may be first.
        row = (deed("d", "a"), deed("a", "b", "a"), deed("c", "c"))
        self.assertEqual(names(least_row(row)), ("c", "d", "a"))

    def test_it_need_not_be_the_normal_one(self):
        row = (deed("b", "a"), deed("a", "b", "a"), deed("c", "c"))
        self.assertEqual(names(least_row(row)), ("b", "a", "c"))
        self.assertEqual(names(normal(row)), ("b", "c", "a"))

    def test_deed_by_deed_and_not_all_names_in_one(self):
        row = (deed("ab", "a"), deed("a", "b"), deed("aa", "c"))
        self.assertEqual(names(least_row(row)), ("a", "aa", "ab"))
        # As one text "bab" would be less than "bba".
        row = (deed("ba", "a"), deed("b", "b"))
        self.assertEqual(names(least_row(row)), ("b", "ba"))

    def test_no_deeds_and_one(self):
        self.assertEqual(least_row(()), ())
        self.assertEqual(least_row((S,)), (S,))


class AgainstTheWords(unittest.TestCase):
    def test_all_that_swaps_lead_to(self):
        several = 0
        for row in some_rows(31, 150, 5):
            before = copy.deepcopy(row)
            fewest = reached(row)
            several += 1 < len(fewest) < math.factorial(len(row))
            least = min(fewest, key=names)
            for _ in range(2):
                self.assertEqual(orders_many(row), len(fewest))
                self.assertEqual(least_row(row), least)
            for other in itertools.permutations(row):
                self.assertEqual(swaps(row, other), fewest.get(other))
                self.assertEqual(swaps(other, row), fewest.get(other))
                self.assertIs(are_same(row, other), other in fewest)
                self.assertEqual(normal(row) == normal(other), other in fewest)
            self.assertIn(normal(row), fewest)
            self.assertEqual(row, before)
        self.assertGreater(several, 50)

    def test_swapped(self):
        for row in some_rows(32, 100, 10):
            for at in range(len(row) - 1):
                told = None if tied_by_the_words(row[at], row[at + 1]) else swapped_by_the_words(row, at)
                for _ in range(2):
                    self.assertEqual(swapped(row, at), told)

    def test_normal_is_round_by_round_by_names(self):
        for row in some_rows(33, 100, 10):
            told = []
            for numbers in rounds(row):
                told += sorted((row[number] for number in numbers), key=lambda each: each[0])
            self.assertEqual(normal(row), tuple(told))

    def test_a_row_that_is_the_same_does_the_same(self):
        dice = dice_of(34)
        for row in some_rows(35, 60, 6):
            others = sorted(reached(row))
            for other in dice.sample(others, min(5, len(others))) + [normal(row), least_row(row)]:
                self.assertIs(are_same(row, other), True)
                for _ in range(5):
                    store = some_store(dice)
                    self.assertEqual(run(store, row), run(store, other))

    def test_long_rows(self):
        dice = dice_of(36)
        for row in some_rows(37, 60, 10):
            other = row
            steps = 0
            for _ in range(40):
                there = swapped(other, dice.randrange(len(row) - 1)) if len(row) > 1 else None
                if there is not None:
                    other, steps = there, steps + 1
            fewest = swaps(row, other)
            self.assertLessEqual(fewest, steps)
            self.assertEqual(fewest & 1, steps & 1)
            self.assertEqual(swaps(other, row), fewest)
            self.assertEqual(normal(row), normal(other))
            self.assertEqual(least_row(row), least_row(other))
            self.assertEqual(orders_many(row), orders_many(other))


if __name__ == "__main__":
    unittest.main()
