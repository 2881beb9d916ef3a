"""[4.1] and [4.2] over [0.2] (a): rounds, their faults, and what they do."""

import copy
import itertools
import unittest

from sidedeeds.errors import BadRounds, Clash, SideError
from sidedeeds.rounds import are_rounds, fixed, late_rounds, narrow, rounds, run_rounds, why_not, widest
from sidedeeds.stores import run
from sidedeeds.ties import longest_chain, ties
from things import deed, dice_of, some_light_row, some_row, some_store


# 0 leads to 1, 1 to 4; 2 leads to 4; 3 stands alone; 5 is behind 2.
ROW = (deed("p", "a"), deed("q", "b", "a"), deed("r", "c"), deed("s", "h"), deed("t", "d", "bc"), deed("u", "e", "c"))
EARLY = ((0, 2, 3), (1, 5), (4,))
LATE = ((0,), (1, 2), (3, 4, 5))
# Each is tied to the next.
CHAIN = (deed("p", "a"), deed("q", "b", "a"), deed("r", "c", "b"))
ALONE = (deed("p", "a", "h"), deed("q", "b", "h"), deed("r", "c", "gh"))
STORE = (("a", 4), ("c", -2), ("h", 1))


def faults_by_the_words(row, some):
    """All faults in the order of [4.1]."""
    told, said = [], []
    for numbers in some:
        for number in numbers:
            if number not in list(range(len(row))):
                told.append(("none", number))
            elif number in said:
                told.append(("twice", number))
            said.append(number)
    told.extend(("missing", number) for number in range(len(row)) if number not in said)
    if told:
        return told
    at = {number: place for place, numbers in enumerate(some) for number in numbers}
    for one, other in ties(row):
        if at[one] == at[other]:
            told.append(("side", one, other))
        elif at[one] > at[other]:
            told.append(("order", one, other))
    return told


def early_by_the_words(row):
    """The place of each deed in rounds: the first behind those of all that are tied to it ahead of it."""
    places = []
    for number in range(len(row)):
        before = [places[one] for one, other in ties(row) if other == number]
        places.append(min(at for at in range(len(row)) if all(at > place for place in before)))
    return places


def late_by_the_words(row, many):
    """The place of each deed in so many late_rounds: the last ahead of those of all tied to it behind it."""
    places = {}
    for number in reversed(range(len(row))):
        after = [places[other] for one, other in ties(row) if one == number]
        places[number] = max(at for at in range(many) if all(at < place for place in after))
    return [places[number] for number in range(len(row))]


def at_places(places, many):
    return tuple(tuple(number for number, place in enumerate(places) if place == at) for at in range(many))


def shuffled_rounds(dice, row):
    """Rounds with all kinds of faults, or none, made of good ones."""
    some = [list(numbers) for numbers in dice.choice((rounds, late_rounds))(row)]
    for _ in range(dice.randrange(4)):
        some.insert(dice.randrange(len(some) + 1), [])
    for _ in range(dice.randrange(3)):
        change_one(dice, row, some)
    return tuple(tuple(numbers) for numbers in some)


def change_one(dice, row, some):
    """Moves a number to another round, or leaves it out, or puts one in, which may be no deed's."""
    if not some:
        return
    change = dice.choice(("move", "move", "move", "move", "out", "in"))
    numbers = dice.choice(some)
    if change == "in":
        number = dice.randint(-2, len(row) + 1)
    elif numbers:
        number = numbers.pop(dice.randrange(len(numbers)))
    else:
        return
    if change != "out":
        target = dice.choice(some)
        target.insert(dice.randrange(len(target) + 1), number)


class Rounds(unittest.TestCase):
    def test_rounds(self):
        self.assertEqual(rounds(ROW), EARLY)
        self.assertEqual(rounds(CHAIN), ((0,), (1,), (2,)))

    def test_late_rounds(self):
        self.assertEqual(late_rounds(ROW), LATE)
        self.assertEqual(late_rounds(CHAIN), ((0,), (1,), (2,)))

    def test_deeds_without_ties(self):
        self.assertEqual(rounds(ALONE), ((0, 1, 2),))
        self.assertEqual(late_rounds(ALONE), ((0, 1, 2),))

    def test_without_deeds_and_with_one(self):
        self.assertEqual(rounds(()), ())
        self.assertEqual(late_rounds(()), ())
        self.assertEqual(rounds(ROW[:1]), ((0,),))
        self.assertEqual(late_rounds(ROW[:1]), ((0,),))

    def test_a_tie_that_skips_a_round(self):
        row = CHAIN + (deed("s", "d", "ac"), deed("t", "e", "a"))
        self.assertEqual(rounds(row), ((0,), (1, 4), (2,), (3,)))
        self.assertEqual(late_rounds(row), ((0,), (1,), (2,), (3, 4)))

    def test_more_deeds_and_names_that_are_alike(self):
        row = (CHAIN[0], deed("p", "h")) * 8
        told = tuple((number, number + 1) for number in range(0, 16, 2))
        self.assertEqual(rounds(row), told)
        self.assertEqual(late_rounds(row), told)


class Fixed(unittest.TestCase):
    def test_some(self):
        self.assertEqual(fixed(ROW), (0, 1, 4))
        self.assertEqual(fixed(CHAIN + (deed("s", "h"),)), (0, 1, 2))

    def test_all(self):
        self.assertEqual(fixed(CHAIN), (0, 1, 2))
        self.assertEqual(fixed(ALONE), (0, 1, 2))
        self.assertEqual(fixed(ROW[:1]), (0,))

    def test_without_deeds(self):
        self.assertEqual(fixed(()), ())


class WhyNot(unittest.TestCase):
    def told(self, row, some, fault):
        self.assertEqual(why_not(row, some), fault)
        self.assertIs(are_rounds(row, some), fault is None)
        if fault is None:
            self.assertEqual(run_rounds(STORE, row, some), run(STORE, row))
        else:
            with self.assertRaises(BadRounds):
                run_rounds(STORE, row, some)

    def test_no_fault(self):
        self.told(ROW, EARLY, None)
        self.told(ROW, LATE, None)
        self.told(ROW, tuple((number,) for number in range(6)), None)
        self.told(ROW, ((2,), (5, 0), (3, 1), (4,)), None)
        self.told((), (), None)

    def test_numbers_in_a_round_need_not_rise(self):
        self.told(ROW, ((3, 2, 0), (5, 1), (4,)), None)

    def test_empty_rounds(self):
        self.told(ROW, ((),) + EARLY + ((), ()), None)
        self.told(CHAIN, ((0,), (), (1,), (), (2,)), None)
        self.told((), ((), ()), None)
        self.told(CHAIN, ((), ()), ("missing", 0))

    def test_none(self):
        self.told(CHAIN, ((0,), (1,), (2, 3)), ("none", 3))
        self.told(CHAIN, ((99,),), ("none", 99))
        self.told((), ((0,),), ("none", 0))

    def test_numbers_below_0(self):
        self.told(CHAIN, ((-1,), (0,), (1,), (2,)), ("none", -1))
        self.told(CHAIN, ((0,), (1,), (-1,)), ("none", -1))
        self.told(CHAIN, ((-3,), (-2,), (-1,)), ("none", -3))
        self.told((), ((), (-1,)), ("none", -1))

    def test_twice(self):
        self.told(CHAIN, ((0,), (1, 1), (2,)), ("twice", 1))
        self.told(CHAIN, ((0,), (1,), (2,), (0,)), ("twice", 0))
        self.told(CHAIN[:1], ((0, 0),), ("twice", 0))

    def test_missing_is_the_least(self):
        self.told(CHAIN, (), ("missing", 0))
        self.told(CHAIN, ((0,), (1,)), ("missing", 2))
        self.told(CHAIN, ((0,),), ("missing", 1))
        self.told(ROW, ((5,), (1,), (0,)), ("missing", 2))

    def test_side(self):
        self.told(CHAIN, ((0, 1), (2,)), ("side", 0, 1))
        self.told(CHAIN, ((1, 0), (2,)), ("side", 0, 1))
        self.told(CHAIN, ((0,), (1, 2)), ("side", 1, 2))
        self.told(CHAIN, ((0, 1, 2),), ("side", 0, 1))

    def test_order(self):
        self.told(CHAIN, ((1,), (0,), (2,)), ("order", 0, 1))
        self.told(CHAIN, ((0,), (2,), (1,)), ("order", 1, 2))
        self.told(CHAIN, ((2,), (1,), (0,)), ("order", 0, 1))

    def test_none_and_twice_round_by_round(self):
        self.told(CHAIN, ((0, 0), (9,)), ("twice", 0))
        self.told(CHAIN, ((9,), (0, 0)), ("none", 9))
        self.told(CHAIN, ((0,), (0,), (-1,)), ("twice", 0))
        self.told(CHAIN, ((0,), (-1,), (0,)), ("none", -1))
        self.told(CHAIN, ((7,), (3,)), ("none", 7))
        self.told(CHAIN, ((2, 1), (1,), (2,)), ("twice", 1))

    def test_in_one_round_the_first_one_said(self):
        self.told(CHAIN, ((0, 0, 9),), ("twice", 0))
        self.told(CHAIN, ((0, 9, 0),), ("none", 9))

    def test_a_number_that_is_no_deeds_said_twice(self):
        self.told(CHAIN, ((9, 9),), ("none", 9))

    def test_none_and_twice_ahead_of_missing(self):
        self.told(CHAIN, ((1,), (5,)), ("none", 5))
        self.told(CHAIN, ((1,), (1,)), ("twice", 1))

    def test_none_twice_and_missing_ahead_of_ties(self):
        self.told(CHAIN, ((1, 0), (2,), (3,)), ("none", 3))
        self.told(CHAIN, ((1, 0), (2,), (2,)), ("twice", 2))
        self.told(CHAIN, ((1, 0),), ("missing", 2))

    def test_of_the_ties_the_first(self):
        self.told(CHAIN, ((1, 2), (0,)), ("order", 0, 1))
        self.told(CHAIN, ((2,), (0, 1)), ("side", 0, 1))
        self.told(ROW, ((4, 0), (1, 2, 3), (5,)), ("order", 1, 4))
        self.told(ROW, ((0,), (2, 3, 5), (1, 4)), ("side", 1, 4))

    def test_a_tie_over_other_deeds_that_is_none_of_its_own(self):
        # 0 and 2 are not tied, only 0 and 1, 1 and 2.
        self.told(CHAIN, ((1,), (0, 2)), ("order", 0, 1))


class RunRounds(unittest.TestCase):
    def test_the_store_of_the_row(self):
        told = (("a", 1), ("b", 2), ("c", 1), ("d", 4), ("e", 2), ("h", 1))
        for some in (EARLY, LATE, ((),) + EARLY, narrow(ROW, 1), narrow(ROW, 2)):
            self.assertEqual(run_rounds(STORE, ROW, some), told)
        self.assertEqual(run(STORE, ROW), told)

    def test_without_deeds(self):
        self.assertEqual(run_rounds(STORE, (), ()), STORE)
        self.assertEqual(run_rounds((), (), ((), ())), ())

    def test_bad_rounds_is_a_refusal_of_its_own(self):
        both_write = (deed("x", "a"), deed("y", "a"))
        with self.assertRaises(BadRounds) as caught:
            run_rounds(STORE, both_write, ((0, 1),))
        self.assertIsInstance(caught.exception, SideError)
        self.assertNotIsInstance(caught.exception, Clash)


class Narrow(unittest.TestCase):
    def test_one_at_a_time(self):
        self.assertEqual(narrow(ROW, 1), tuple((number,) for number in range(6)))
        self.assertEqual(narrow(CHAIN, 1), ((0,), (1,), (2,)))

    def test_some(self):
        self.assertEqual(narrow(ROW, 2), ((0, 2), (1, 3), (4, 5)))
        self.assertEqual(narrow(ALONE, 2), ((0, 1), (2,)))
        self.assertEqual(narrow(CHAIN, 2), ((0,), (1,), (2,)))

    def test_a_deed_goes_ahead_of_lesser_ones_that_must_wait(self):
        row = CHAIN + (deed("s", "h"), deed("t", "g"))
        self.assertEqual(narrow(row, 2), ((0, 3), (1, 4), (2,)))

    def test_none_goes_beside_one_that_it_waits_for(self):
        row = (deed("p", "a"), deed("q", "b", "a"), deed("r", "h"))
        self.assertEqual(narrow(row, 2), ((0, 2), (1,)))

    def test_more_than_there_are(self):
        for many in (3, 6, 7, 100, 10 ** 30):
            self.assertEqual(narrow(ROW, many), EARLY)
        self.assertEqual(narrow(ALONE, 3), ((0, 1, 2),))
        self.assertEqual(narrow(ALONE, 9), ((0, 1, 2),))

    def test_without_deeds(self):
        for many in (1, 2, 9):
            self.assertEqual(narrow((), many), ())

    def test_below_1_it_still_comes_to_an_end(self):
        for many in (0, -1, -5):
            self.assertIs(are_rounds(ROW, narrow(ROW, many)), True)


class Widest(unittest.TestCase):
    def test_widest(self):
        self.assertEqual(widest(ROW), 3)
        self.assertEqual(widest(CHAIN), 1)
        self.assertEqual(widest(ALONE), 3)
        self.assertEqual(widest(ROW[:1]), 1)

    def test_of_rounds_and_not_of_late_rounds(self):
        row = (deed("p", "a"), deed("q", "b", "a"), deed("r", "c"), deed("s", "d"))
        self.assertEqual((rounds(row), late_rounds(row)), (((0, 2, 3), (1,)), ((0,), (1, 2, 3))))
        self.assertEqual(widest(row), 3)
        row = (deed("p", "a"), deed("q", "b", "a"), deed("r", "c", "a"), deed("s", "d", "b"), deed("t", "h", "bc"))
        row = row + (deed("u", "g"),)
        self.assertEqual((rounds(row), late_rounds(row)), (((0, 5), (1, 2), (3, 4)), ((0,), (1, 2), (3, 4, 5))))
        self.assertEqual(widest(row), 2)

    def test_0_without_deeds(self):
        self.assertEqual(widest(()), 0)


class AgainstTheWords(unittest.TestCase):
    def rows(self, seed, many, most=8):
        dice = dice_of(seed)
        for _ in range(many):
            yield some_light_row(dice, dice.randrange(most))
        for _ in range(many // 10):
            yield some_row(dice, dice.randrange(6))

    def test_rounds_late_rounds_fixed_and_widest(self):
        for row in self.rows(31, 200):
            before = copy.deepcopy(row)
            early = early_by_the_words(row)
            many = max(early, default=-1) + 1
            late = late_by_the_words(row, many)
            for _ in range(2):
                self.assertEqual(rounds(row), at_places(early, many))
                self.assertEqual(late_rounds(row), at_places(late, many))
                self.assertEqual(fixed(row), tuple(k for k in range(len(row)) if early[k] == late[k]))
                self.assertEqual(widest(row), max([early.count(place) for place in early], default=0))
            self.assertEqual(len(rounds(row)), len(late_rounds(row)))
            self.assertEqual(len(rounds(row)), len(longest_chain(row)))
            self.assertEqual(row, before)

    def test_they_have_no_fault_and_lead_to_the_store_of_the_row(self):
        dice = dice_of(32)
        for row in self.rows(33, 200):
            store = some_store(dice)
            for some in (rounds(row), late_rounds(row), narrow(row, 1), narrow(row, 2), narrow(row, 3)):
                self.assertIsNone(why_not(row, some))
                self.assertEqual(run_rounds(store, row, some), run(store, row))

    def test_no_fewer_rounds_have_no_fault(self):
        for row in self.rows(34, 60, 6):
            many = len(rounds(row)) - 1
            for places in itertools.product(range(max(many, 0)), repeat=len(row)):
                if row:
                    self.assertIs(are_rounds(row, at_places(places, many)), False)

    def test_why_not_and_run_rounds(self):
        dice = dice_of(35)
        seen = {}
        for row in self.rows(36, 300):
            for _ in range(6):
                some, store = shuffled_rounds(dice, row), some_store(dice)
                before = copy.deepcopy((row, some, store))
                fault = next(iter(faults_by_the_words(row, some)), None)
                seen[fault and fault[0]] = seen.get(fault and fault[0], 0) + 1
                for _ in range(2):
                    self.assertEqual(why_not(row, some), fault)
                    self.assertIs(are_rounds(row, some), fault is None)
                    if fault is None:
                        self.assertEqual(run_rounds(store, row, some), run(store, row))
                    else:
                        self.assertRaises(BadRounds, run_rounds, store, row, some)
                self.assertEqual((row, some, store), before)
        self.assertEqual(set(seen), {None, "none", "twice", "missing", "side", "order"})
        self.assertGreater(min(seen.values()), 20, seen)

    def test_narrow(self):
        dice = dice_of(37)
        for row in self.rows(38, 200):
            many = dice.randint(1, 4)
            left, told = set(range(len(row))), []
            while left:
                free = [k for k in sorted(left) if not any(other == k and one in left for one, other in ties(row))]
                told.append(tuple(free[:many]))
                left -= set(told[-1])
            self.assertEqual(narrow(row, many), tuple(told))
            self.assertEqual(narrow(row, many), tuple(told))


if __name__ == "__main__":
    unittest.main()
