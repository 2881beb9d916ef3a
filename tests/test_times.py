"""[8.1] and [8.2] over [0.2] (e): when deeds may begin, plans for hands, their faults, the best time."""

import copy
import itertools
import time
import unittest

from sidedeeds.errors import SideError, TooMany
from sidedeeds.stores import run
from sidedeeds.ties import longest_chain, ties
from sidedeeds.times import best_time, earliest, ends_at, in_turn, latest, least_time, planned, tight, why_bad
from things import CELLS, deed, dice_of, some_light_row, some_loose_row, some_row, some_store


def timed(name, ticks, wrote, read=""):
    """A deed of so many ticks that writes these cells by forms that read those."""
    return (name, ticks) + deed(name, wrote, read)[2:]


# Each is tied to the next.
CHAIN = (timed("p", 2, "a"), timed("q", 5, "b", "a"), timed("r", 1, "c", "b"))
ALONE = (timed("p", 4, "a"), timed("q", 1, "b"), timed("r", 9, "c"), timed("s", 3, "d"))
# From 0 to 4 over 1 and 2, which take 5 ticks, or over 3, which takes 2; 5 stands alone.
WAYS = (
    timed("p", 1, "a"), timed("q", 2, "b", "a"), timed("r", 3, "c", "b"), timed("s", 2, "d", "a"),
    timed("t", 4, "e", "cd"), timed("u", 1, "h"))


def ticks_of(row):
    return [each[1] for each in row]


def earliest_by_the_words(row):
    told = []
    for number in range(len(row)):
        begin = 0
        while any(begin < told[one] + row[one][1] for one, other in ties(row) if other == number):
            begin += 1
        told.append(begin)
    return tuple(told)


def latest_by_the_words(row, end):
    told = {}
    for number in reversed(range(len(row))):
        begin = end
        while begin + row[number][1] > end or any(
                begin + row[number][1] > told[other] for one, other in ties(row) if one == number):
            begin -= 1
        told[number] = begin
    return tuple(told[number] for number in range(len(row)))


def planned_by_the_words(row, hands, order):
    tied = ties(row)
    plan = []
    while len(plan) < len(row):
        out = [number for number, hand, begin in plan]
        number = [number for number in order if number not in out
                  and all(one in out for one, other in tied if other == number)][0]
        choices = []
        for hand in range(hands):
            waits = [begin + row[other][1] for other, busy, begin in plan
                     if busy == hand or (other, number) in tied]
            choices.append((max([0] + waits), hand))
        begin, hand = min(choices)
        plan.append((number, hand, begin))
    return tuple(plan)


def faults_by_the_words(row, hands, plan):
    """All faults of a plan in the order of [8.2]."""
    told, said = [], []
    for number, hand, begin in plan:
        if number not in list(range(len(row))):
            told.append(("none", number))
        elif number in said:
            told.append(("twice", number))
        elif hand not in list(range(hands)) or begin < 0:
            told.append(("hand", number))
        said.append(number)
    told.extend(("missing", number) for number in range(len(row)) if number not in said)
    if told:
        return told
    at = {number: (hand, set(range(begin, begin + row[number][1]))) for number, hand, begin in plan}
    pairs = sorted(itertools.combinations(range(len(row)), 2), key=lambda pair: (pair[1], pair[0]))
    for earlier, later in pairs:
        if at[earlier][0] == at[later][0] and at[earlier][1] & at[later][1]:
            told.append(("overlap", earlier, later))
    for one, other in ties(row):
        if min(at[other][1]) <= max(at[one][1]):
            told.append(("order", one, other))
    return told


def can_end_by(row, tied, hands, end, begins=()):
    """Whether begins can be found, deed by deed, with which all have ended by then: all ways are tried.

    Deeds of which never more go on at a time than there are hands can be given to these hands.
    """
    number = len(begins)
    if number == len(row):
        going_on = [sum(begin <= tick < begin + row[at][1] for at, begin in enumerate(begins)) for tick in range(end)]
        return max(going_on, default=0) <= hands
    for begin in range(end - row[number][1] + 1):
        if all(begin >= begins[one] + row[one][1] for one, other in tied if other == number):
            if can_end_by(row, tied, hands, end, begins + (begin,)):
                return True
    return False


def best_by_all_ways(row, hands):
    return next(end for end in itertools.count() if can_end_by(row, ties(row), hands, end))


class Earliest(unittest.TestCase):
    def test_plain_rows(self):
        self.assertEqual(earliest(CHAIN), (0, 2, 7))
        self.assertEqual(earliest(ALONE), (0, 0, 0, 0))
        self.assertEqual(earliest(WAYS), (0, 1, 3, 1, 6, 0))

    def test_no_deeds_and_one(self):
        self.assertEqual(earliest(()), ())
        self.assertEqual(earliest(CHAIN[:1]), (0,))

    def test_any_tie_counts(self):
        # One that reads ahead of one that writes, and two that write one cell.
        self.assertEqual(earliest((timed("x", 3, "b", "a"), timed("y", 2, "a"), timed("z", 1, "a"))), (0, 3, 5))

    def test_the_longer_of_two_ways_whichever_comes_first(self):
        row = (timed("p", 9, "a"), timed("q", 1, "b"), timed("r", 1, "c", "ab"))
        self.assertEqual(earliest(row), (0, 0, 9))
        row = (timed("p", 1, "a"), timed("q", 9, "b"), timed("r", 1, "c", "ab"))
        self.assertEqual(earliest(row), (0, 0, 9))


class LeastTime(unittest.TestCase):
    def test_plain_rows(self):
        self.assertEqual(least_time(CHAIN), 8)
        self.assertEqual(least_time(ALONE), 9)
        self.assertEqual(least_time(WAYS), 10)

    def test_no_deeds_and_one(self):
        self.assertEqual(least_time(()), 0)
        self.assertEqual(least_time(CHAIN[:1]), 2)

    def test_the_last_to_end_need_not_be_the_last_to_begin(self):
        self.assertEqual(least_time((timed("x", 9, "a"), timed("y", 1, "b"), timed("z", 1, "c", "b"))), 9)


class Latest(unittest.TestCase):
    def test_plain_rows(self):
        self.assertEqual(latest(CHAIN), (0, 2, 7))
        self.assertEqual(latest(ALONE), (5, 8, 0, 6))
        self.assertEqual(latest(WAYS), (0, 1, 3, 4, 6, 9))

    def test_no_deeds_and_one(self):
        self.assertEqual(latest(()), ())
        self.assertEqual(latest(CHAIN[:1]), (0,))

    def test_the_earlier_of_two_behind(self):
        row = (timed("p", 1, "a"), timed("q", 2, "b", "a"), timed("r", 6, "c", "a"), timed("s", 9, "d"))
        self.assertEqual(latest(row), (2, 7, 3, 0))


class Tight(unittest.TestCase):
    def test_plain_rows(self):
        self.assertEqual(tight(CHAIN), (0, 1, 2))
        self.assertEqual(tight(ALONE), (2,))
        self.assertEqual(tight(WAYS), (0, 1, 2, 4))

    def test_no_deeds_and_one(self):
        self.assertEqual(tight(()), ())
        self.assertEqual(tight(CHAIN[:1]), (0,))


class Planned(unittest.TestCase):
    def test_one_hand(self):
        self.assertEqual(planned(CHAIN, 1, (0, 1, 2)), ((0, 0, 0), (1, 0, 2), (2, 0, 7)))
        self.assertEqual(planned(ALONE, 1, (3, 1, 0, 2)), ((3, 0, 0), (1, 0, 3), (0, 0, 4), (2, 0, 8)))

    def test_the_first_of_order_that_may_be_given_out(self):
        self.assertEqual(planned(CHAIN, 1, (2, 1, 0)), planned(CHAIN, 1, (0, 1, 2)))
        self.assertEqual(planned(WAYS, 1, (4, 2, 5, 3, 1, 0)),
                         ((5, 0, 0), (0, 0, 1), (3, 0, 2), (1, 0, 4), (2, 0, 6), (4, 0, 9)))

    def test_again_and_again_from_the_front(self):
        # 2 comes first in order; as soon as 0 is given out it is next, ahead of 3.
        row = (timed("p", 1, "a"), timed("q", 1, "b"), timed("r", 1, "c", "a"), timed("s", 1, "d"))
        self.assertEqual([step[0] for step in planned(row, 2, (2, 0, 3, 1))], [0, 2, 3, 1])

    def test_the_hand_with_which_it_begins_first(self):
        self.assertEqual(planned(ALONE, 2, (0, 1, 2, 3)), ((0, 0, 0), (1, 1, 0), (2, 1, 1), (3, 0, 4)))
        self.assertEqual(planned(ALONE, 3, (0, 1, 2, 3)), ((0, 0, 0), (1, 1, 0), (2, 2, 0), (3, 1, 1)))

    def test_of_several_hands_the_least(self):
        self.assertEqual(planned(CHAIN, 3, (0, 1, 2)), ((0, 0, 0), (1, 0, 2), (2, 0, 7)))
        # Both hands are free when 2 may begin; hand 0 for a shorter while.
        row = (timed("p", 3, "a"), timed("q", 1, "b"), timed("r", 1, "c", "a"))
        self.assertEqual(planned(row, 2, (0, 1, 2)), ((0, 0, 0), (1, 1, 0), (2, 0, 3)))
        self.assertEqual(planned(row, 2, (1, 0, 2)), ((1, 0, 0), (0, 1, 0), (2, 0, 3)))

    def test_behind_all_that_the_hand_was_given(self):
        # Hand 0 would be idle from 1 to 4, but 3 comes behind what it was given.
        row = (timed("p", 1, "a"), timed("q", 4, "b"), timed("r", 1, "c", "b"), timed("s", 1, "d"))
        self.assertEqual(planned(row, 2, (0, 1, 2, 3)), ((0, 0, 0), (1, 1, 0), (2, 0, 4), (3, 1, 4)))

    def test_waiting_for_what_is_tied_ahead(self):
        row = (timed("p", 3, "a"), timed("q", 5, "b"), timed("r", 1, "c", "ab"))
        self.assertEqual(planned(row, 2, (0, 1, 2)), ((0, 0, 0), (1, 1, 0), (2, 0, 5)))

    def test_more_hands_than_deeds(self):
        told = tuple((number, number, 0) for number in range(4))
        for hands in (4, 5, 100, 10 ** 9):
            self.assertEqual(planned(ALONE, hands, (0, 1, 2, 3)), told)
        self.assertEqual(planned(ALONE, 10 ** 9, (3, 2, 1, 0)), ((3, 0, 0), (2, 1, 0), (1, 2, 0), (0, 3, 0)))

    def test_less_than_one_hand_is_taken_as_one(self):
        for hands in (0, -1):
            self.assertEqual(planned(CHAIN, hands, (0, 1, 2)), planned(CHAIN, 1, (0, 1, 2)))
            self.assertEqual(in_turn(ALONE, hands), in_turn(ALONE, 1))

    def test_no_deeds(self):
        self.assertEqual(planned((), 1, ()), ())
        self.assertEqual(planned((), 3, ()), ())


class InTurn(unittest.TestCase):
    def test_by_numbers(self):
        self.assertEqual(in_turn(ALONE, 2), ((0, 0, 0), (1, 1, 0), (2, 1, 1), (3, 0, 4)))
        self.assertEqual(in_turn(CHAIN, 2), ((0, 0, 0), (1, 0, 2), (2, 0, 7)))
        self.assertEqual(in_turn((), 2), ())


class EndsAt(unittest.TestCase):
    def test_when_the_last_one_ends(self):
        self.assertEqual(ends_at(CHAIN, in_turn(CHAIN, 1)), 8)
        self.assertEqual(ends_at(ALONE, ((0, 0, 0), (2, 1, 1), (3, 0, 4), (1, 0, 7))), 10)
        self.assertEqual(ends_at(ALONE, ((1, 0, 30),)), 31)

    def test_0_without_deeds(self):
        self.assertEqual(ends_at((), ()), 0)
        self.assertEqual(ends_at(ALONE, ()), 0)

    def test_plans_with_faults(self):
        self.assertEqual(ends_at(ALONE, ((0, 9, 0), (0, 0, 2))), 6)
        self.assertEqual(ends_at(ALONE, ((1, 0, -5),)), -4)
        # Numbers that are no deed's end at no time.
        self.assertEqual(ends_at(ALONE, ((1, 0, 0), (4, 0, 50), (-1, 0, 50))), 1)
        self.assertEqual(ends_at((), ((0, 0, 5),)), 0)


class WhyBad(unittest.TestCase):
    GOOD = ((0, 0, 0), (1, 1, 0), (2, 1, 1), (3, 0, 4))

    def with_step(self, at, *step):
        return self.GOOD[:at] + (step,) + self.GOOD[at + 1:]

    def test_none(self):
        self.assertIsNone(why_bad((), 1, ()))
        self.assertIsNone(why_bad(ALONE, 2, self.GOOD))
        self.assertIsNone(why_bad(ALONE, 2, self.GOOD[::-1]))
        self.assertIsNone(why_bad(ALONE, 9, self.GOOD))
        self.assertIsNone(why_bad(CHAIN, 1, ((0, 0, 0), (1, 0, 2), (2, 0, 7))))
        self.assertIsNone(why_bad(CHAIN, 3, ((2, 1, 99), (0, 2, 3), (1, 0, 10))))

    def test_a_number_that_is_no_deeds(self):
        for number in (4, 5, 100, -1, -4):
            self.assertEqual(why_bad(ALONE, 2, self.with_step(2, number, 1, 1)), ("none", number))
            self.assertEqual(why_bad(ALONE, 2, self.GOOD + ((number, 0, 50),)), ("none", number))
        self.assertEqual(why_bad((), 1, ((0, 0, 0),)), ("none", 0))

    def test_a_number_twice(self):
        self.assertEqual(why_bad(ALONE, 2, self.GOOD + ((1, 0, 50),)), ("twice", 1))
        self.assertEqual(why_bad(ALONE, 2, self.with_step(2, 0, 1, 50)), ("twice", 0))
        self.assertEqual(why_bad(ALONE, 2, self.GOOD + ((3, 0, 4),)), ("twice", 3))

    def test_no_such_hand(self):
        for hand in (2, 3, 100, -1, -2):
            self.assertEqual(why_bad(ALONE, 2, self.with_step(3, 3, hand, 4)), ("hand", 3))
        self.assertEqual(why_bad(ALONE, 1, self.GOOD), ("hand", 1))
        self.assertEqual(why_bad(CHAIN, 0, in_turn(CHAIN, 1)), ("hand", 0))

    def test_a_begin_below_0(self):
        for begin in (-1, -100):
            self.assertEqual(why_bad(ALONE, 2, self.with_step(0, 0, 0, begin)), ("hand", 0))
        self.assertIsNone(why_bad(ALONE, 2, self.with_step(0, 0, 0, 0)))

    def test_missing_ones_the_least(self):
        self.assertEqual(why_bad(ALONE, 2, ()), ("missing", 0))
        self.assertEqual(why_bad(ALONE, 2, self.GOOD[:1] + self.GOOD[2:]), ("missing", 1))
        self.assertEqual(why_bad(ALONE, 2, self.GOOD[:2]), ("missing", 2))
        self.assertEqual(why_bad(ALONE, 2, self.GOOD[3:]), ("missing", 0))
        self.assertEqual(why_bad(ALONE, 2, self.GOOD[:3]), ("missing", 3))

    def test_two_on_one_hand_at_a_time(self):
        # 0 goes from 0 to 4.
        for begin in (0, 1, 3):
            self.assertEqual(why_bad(ALONE, 2, self.with_step(3, 3, 0, begin)), ("overlap", 0, 3))
        self.assertIsNone(why_bad(ALONE, 3, self.with_step(3, 3, 2, 3)))
        # 3, the later number, ends when 0 begins, or a tick behind that.
        plan = ((0, 0, 3), (1, 1, 0), (2, 1, 1), (3, 0, 0))
        self.assertIsNone(why_bad(ALONE, 2, plan))
        self.assertEqual(why_bad(ALONE, 2, ((0, 0, 2),) + plan[1:]), ("overlap", 0, 3))
        # One goes on all the time of the other.
        self.assertEqual(why_bad(ALONE, 3, ((0, 2, 0), (1, 0, 3), (2, 0, 0), (3, 1, 0))), ("overlap", 1, 2))
        self.assertEqual(why_bad(ALONE, 3, ((0, 2, 0), (1, 0, 8), (2, 0, 0), (3, 1, 0))), ("overlap", 1, 2))

    def test_overlaps_by_the_later_number_then_the_earlier(self):
        # 0 and 3 overlap, and 1 and 2: 2 is the lesser later number.
        plan = ((0, 0, 0), (1, 1, 0), (2, 1, 0), (3, 0, 0))
        self.assertEqual(why_bad(ALONE, 2, plan), ("overlap", 1, 2))
        self.assertEqual(why_bad(ALONE, 2, plan[::-1]), ("overlap", 1, 2))
        # 0 and 2 overlap, and 1 and 2, but not 0 and 1.
        plan = ((0, 0, 0), (1, 0, 4), (2, 0, 0), (3, 1, 0))
        self.assertEqual(why_bad(ALONE, 2, plan), ("overlap", 0, 2))
        # All overlap.
        self.assertEqual(why_bad(ALONE, 1, tuple((number, 0, 0) for number in (3, 2, 1, 0))), ("overlap", 0, 1))

    def test_the_earlier_number_is_told_first_whichever_begins_first(self):
        self.assertEqual(why_bad(ALONE[:2], 1, ((0, 0, 1), (1, 0, 1))), ("overlap", 0, 1))
        self.assertEqual(why_bad(ALONE[:2], 1, ((1, 0, 1), (0, 0, 1))), ("overlap", 0, 1))

    def test_ties_in_the_wrong_order(self):
        self.assertEqual(why_bad(CHAIN, 3, ((0, 0, 0), (1, 1, 1), (2, 2, 7))), ("order", 0, 1))
        self.assertEqual(why_bad(CHAIN, 3, ((0, 0, 0), (1, 1, 2), (2, 2, 6))), ("order", 1, 2))
        self.assertEqual(why_bad(CHAIN, 3, ((0, 0, 90), (1, 1, 2), (2, 2, 7))), ("order", 0, 1))
        self.assertEqual(why_bad(CHAIN, 3, ((0, 0, 90), (1, 1, 20), (2, 2, 7))), ("order", 0, 1))

    def test_ties_rising(self):
        row = (timed("p", 2, "a"), timed("q", 2, "b"), timed("r", 2, "c", "b"), timed("s", 2, "d", "a"))
        self.assertEqual(ties(row), ((0, 3), (1, 2)))
        self.assertEqual(why_bad(row, 4, ((0, 0, 0), (1, 1, 0), (2, 2, 0), (3, 3, 0))), ("order", 0, 3))
        self.assertEqual(why_bad(row, 4, ((0, 0, 0), (1, 1, 0), (2, 2, 0), (3, 3, 2))), ("order", 1, 2))

    def test_which_of_two_is_told_first_step_by_step(self):
        wrong = {"none": (7, 0, 0), "twice": (0, 0, 50), "hand": (3, 9, 0)}
        start = ((0, 0, 0),)
        for one, other in itertools.permutations(wrong, 2):
            told = why_bad(ALONE, 2, start + (wrong[one], wrong[other]))
            self.assertEqual(told, (one, wrong[one][0]))

    def test_which_of_two_is_told_first_in_one_step(self):
        # No deed's ahead of twice and of no such hand; twice ahead of no such hand.
        self.assertEqual(why_bad(ALONE, 2, ((7, 9, -1),)), ("none", 7))
        self.assertEqual(why_bad(ALONE, 2, ((0, 0, 0), (0, 9, -1))), ("twice", 0))
        self.assertEqual(why_bad(ALONE, 2, ((7, 0, 0), (7, 0, 0))), ("none", 7))

    def test_a_step_with_another_fault_is_said_all_the_same(self):
        self.assertEqual(why_bad(ALONE, 2, ((0, 9, 0), (0, 0, 0))), ("hand", 0))

    def test_steps_ahead_of_missing_ahead_of_overlap_ahead_of_order(self):
        # The last step has a fault, and 3 is missing, and 0 and 1 overlap.
        self.assertEqual(why_bad(ALONE, 2, ((0, 0, 0), (1, 0, 0), (2, 5, 0))), ("hand", 2))
        self.assertEqual(why_bad(ALONE, 2, ((0, 0, 0), (1, 0, 0), (2, 1, 0))), ("missing", 3))
        # 0 and 1 are in the wrong order, and 1 and 2 overlap.
        self.assertEqual(why_bad(CHAIN, 2, ((0, 0, 0), (1, 1, 0), (2, 1, 4))), ("overlap", 1, 2))
        self.assertEqual(why_bad(CHAIN, 1, ((0, 0, 0), (1, 0, 1), (2, 0, 7))), ("overlap", 0, 1))

    def test_a_number_that_is_a_truth_is_no_deeds(self):
        told = why_bad(ALONE, 2, ((0, 0, 0), (True, 1, 0)))
        self.assertEqual(told[0], "none")
        self.assertIs(told[1], True)


class BestTime(unittest.TestCase):
    def test_one_hand_takes_all_ticks(self):
        self.assertEqual(best_time(CHAIN, 1), 8)
        self.assertEqual(best_time(ALONE, 1), 17)
        self.assertEqual(best_time(WAYS, 1), 13)

    def test_a_hand_for_each_deed_takes_the_least_time(self):
        for row in (CHAIN, ALONE, WAYS):
            for hands in (len(row), len(row) + 1, 10 ** 9):
                self.assertEqual(best_time(row, hands), least_time(row))

    def test_some_hands(self):
        self.assertEqual(best_time(ALONE, 2), 9)
        self.assertEqual(best_time(WAYS, 2), 10)
        row = tuple(timed("x" + cell, ticks, cell) for cell, ticks in zip(CELLS, (3, 3, 2, 2, 2)))
        self.assertEqual(best_time(row, 2), 6)
        self.assertEqual(best_time(row, 3), 5)

    def test_better_than_in_turn(self):
        row = tuple(timed("x" + cell, ticks, cell) for cell, ticks in zip(CELLS, (1, 1, 2)))
        self.assertEqual(ends_at(row, in_turn(row, 2)), 3)
        self.assertEqual(best_time(row, 2), 2)

    def test_a_hand_that_had_better_wait(self):
        # If 4 begins at once, 1 and 2 must go on one hand behind 0, and 3 begins at 4 only.
        row = (timed("p", 1, "d"), timed("q", 1, "g", "d"), timed("r", 2, "f", "d"), timed("s", 5, "d"),
               timed("t", 3, "a"))
        self.assertEqual(best_time(row, 2), 8)
        self.assertEqual(best_by_all_ways(row, 2), 8)

    def test_no_deeds_and_one(self):
        self.assertEqual(best_time((), 1), 0)
        self.assertEqual(best_time((), 5), 0)
        self.assertEqual(best_time(CHAIN[:1], 3), 2)

    def test_less_than_one_hand_is_taken_as_one(self):
        self.assertEqual(best_time(ALONE, 0), 17)

    def test_too_many(self):
        for many in (7, 8, 10):
            row = tuple(timed("x" + name, 1, cell) for name, cell in zip("abcdefghij", CELLS + "ab"))[:many]
            for hands in (1, 3, 10):
                with self.assertRaises(TooMany) as caught:
                    best_time(row, hands)
                self.assertIsInstance(caught.exception, SideError)

    def test_six_deeds_in_little_time(self):
        row = tuple(timed("x" + cell, ticks, cell) for cell, ticks in zip(CELLS, (9, 8, 7, 6, 5, 4)))
        begun = time.perf_counter()
        self.assertEqual([best_time(row, hands) for hands in range(1, 7)], [39, 20, 13, 11, 9, 9])
        self.assertLess(time.perf_counter() - begun, 10)


class AgainstTheWords(unittest.TestCase):
    def rows(self, seed, many, most=10):
        dice = dice_of(seed)
        for _ in range(many):
            yield some_light_row(dice, dice.randint(0, most))
            yield some_loose_row(dice, dice.randint(0, most))
        for _ in range(many // 10):
            yield some_row(dice, dice.randint(0, min(most, 5)))

    def test_times(self):
        for row in self.rows(61, 80):
            before = copy.deepcopy(row)
            early = earliest_by_the_words(row)
            end = max([begin + each[1] for begin, each in zip(early, row)], default=0)
            late = latest_by_the_words(row, end)
            for _ in range(2):
                self.assertEqual(earliest(row), early)
                self.assertEqual(least_time(row), end)
                self.assertEqual(latest(row), late)
                self.assertEqual(tight(row), tuple(at for at in range(len(row)) if early[at] == late[at]))
            self.assertEqual(row, before)
            if row:
                self.assertTrue(tight(row))

    def test_plans(self):
        dice = dice_of(62)
        for row in self.rows(63, 60):
            for hands in (1, 2, 3, 10):
                order = tuple(dice.sample(range(len(row)), len(row)))
                before = copy.deepcopy((row, order))
                plan = planned_by_the_words(row, hands, order)
                for _ in range(2):
                    self.assertEqual(planned(row, hands, order), plan)
                self.assertEqual(in_turn(row, hands), planned_by_the_words(row, hands, tuple(range(len(row)))))
                self.assertIsNone(why_bad(row, hands, plan))
                self.assertEqual(ends_at(row, plan), max([begin + row[at][1] for at, hand, begin in plan], default=0))
                self.assertEqual((row, order), before)

    def test_plans_done_as_they_end_do_the_same_as_the_row(self):
        dice = dice_of(64)
        for row in self.rows(65, 60):
            hands = dice.randint(1, 4)
            plan = planned(row, hands, tuple(dice.sample(range(len(row)), len(row))))
            # Whichever of those that end at one time comes first.
            for sign in (1, -1):
                steps = sorted(plan, key=lambda step: (step[2] + row[step[0]][1], sign * step[0]))
                store = some_store(dice)
                self.assertEqual(run(store, tuple(row[step[0]] for step in steps)), run(store, row))

    def test_no_plan_is_shorter_than_a_chain_or_all_ticks_shared_out(self):
        dice = dice_of(66)
        for row in self.rows(67, 60):
            hands = dice.randint(1, 4)
            chain = sum(row[number][1] for number in longest_chain(row))
            for plan in (in_turn(row, hands), planned(row, hands, tuple(dice.sample(range(len(row)), len(row))))):
                end = ends_at(row, plan)
                self.assertGreaterEqual(end, least_time(row))
                self.assertGreaterEqual(end, chain)
                self.assertGreaterEqual(end * hands, sum(ticks_of(row)))

    def test_faults(self):
        dice = dice_of(68)
        kinds = {}
        for row in self.rows(69, 300, 6):
            hands = dice.randint(1, 4)
            plan = list(in_turn(row, hands))
            for _ in range(dice.randrange(4)):
                # The begin of a step more often than its number or hand, for faults of two deeds.
                change = dice.choice((0, 1, 2, 2, 2, 2, 3, 4))
                if plan and change < 3:
                    at = dice.randrange(len(plan))
                    step = list(plan[at])
                    step[change] += dice.choice((-4, -2, -1, 1, 2, 4))
                    plan[at] = tuple(step)
                elif plan and change == 3:
                    del plan[dice.randrange(len(plan))]
                else:
                    dice.shuffle(plan)
            faults = faults_by_the_words(row, hands, tuple(plan))
            told = faults[0] if faults else None
            kinds[told and told[0]] = kinds.get(told and told[0], 0) + 1
            for _ in range(2):
                self.assertEqual(why_bad(row, hands, tuple(plan)), told)
        self.assertEqual(set(kinds), {None, "none", "twice", "hand", "missing", "overlap", "order"})
        self.assertGreater(min(kinds.values()), 5, kinds)

    def test_best_time_against_all_ways(self):
        dice = dice_of(70)
        shorter = 0
        for _ in range(80):
            row = some_loose_row(dice, dice.randrange(5), 4)
            for hands in (1, 2, 3):
                best = best_by_all_ways(row, hands)
                shorter += best < ends_at(row, in_turn(row, hands))
                for _ in range(2):
                    self.assertEqual(best_time(row, hands), best)
        for _ in range(20):
            row = some_loose_row(dice, 5, 2)
            self.assertEqual(best_time(row, 2), best_by_all_ways(row, 2))
        self.assertGreater(shorter, 5)

    def test_best_time_is_that_of_some_plan_without_fault_and_none_is_shorter(self):
        dice = dice_of(71)
        for _ in range(12):
            row = some_loose_row(dice, dice.randint(1, 3), 2)
            steps = [[(number, hand, begin) for hand in range(2) for begin in range(5)] for number in range(len(row))]
            ends = [ends_at(row, plan) for plan in itertools.product(*steps) if why_bad(row, 2, plan) is None]
            self.assertEqual(best_time(row, 2), min(ends))

    def test_best_time_over_the_whole(self):
        for row in self.rows(72, 15, 6):
            best = [best_time(row, hands) for hands in range(1, 8)]
            self.assertEqual(best, sorted(best, reverse=True))
            self.assertEqual(best[0], sum(ticks_of(row)))
            self.assertEqual(best[6], least_time(row))
            for hands, end in enumerate(best, 1):
                self.assertGreaterEqual(end * hands, sum(ticks_of(row)))
                self.assertLessEqual(end, ends_at(row, in_turn(row, hands)))
                orders = itertools.permutations(range(len(row)))
                self.assertTrue(any(ends_at(row, planned(row, hands, order)) == end for order in orders))


if __name__ == "__main__":
    unittest.main()
