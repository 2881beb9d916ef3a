"""[0.2] (a) to (h) and [0.3]: what holds over the whole program, for rows, stores and plans of many kinds."""

import copy
import itertools
import unittest

from sidedeeds import deeds, forms, maps, merging, needs, orders, rounds, stores, texts, ties, times
from sidedeeds.errors import BadRounds, Clash, Locked, NameTaken, NoDeed, NoText, SideError, TooMany
from sidedeeds.runners import Runner
from test_interface import INTERFACE
from things import (
    CELLS, deed, dice_of, renamed_at_random, some_form, some_light_row, some_loose_row, some_row, some_store)

# Those of which the interface says that they tell True or False.
TRUTHS = {
    forms.is_form, deeds.is_deed, deeds.is_row, stores.is_store, ties.are_tied, rounds.are_rounds, orders.are_same,
    maps.are_alike, maps.commute, maps.is_idle}


def some_rows(seed, many, most=10):
    """Rows that is_row is True of, of many kinds."""
    dice = dice_of(seed)
    yield ()
    yield (deed("x", "a", "a"),)
    yield tuple(deed("x" + name, "a") for name in "abcdefghij"[:most])
    yield tuple(deed("x" + name, name) for name in CELLS[:most])
    for _ in range(many):
        for made in (some_loose_row, some_light_row, some_row):
            yield renamed_at_random(dice, made(dice, dice.randint(0, most)))


def greater_rows(seed, many):
    """Rows that are told: of joined deeds, and mixed ones of more deeds and names that are alike."""
    dice = dice_of(seed)
    for _ in range(many):
        one, other = some_light_row(dice, dice.randrange(11)), some_row(dice, dice.randrange(6))
        turns = tuple(dice.choice((True, False)) for _ in range(14))
        yield merging.mixed(one, one, turns)
        yield merging.mixed(one, other, turns)
        yield (maps.joined("j", 5, one), maps.joined("j", 2, one + other)) + one


def shuffled(dice, row):
    return tuple(dice.sample(range(len(row)), len(row)))


def calls(dice, row, other):
    """A call of each function of the interface that is due no refusal: the function, and what is handed in."""
    store, cells = some_store(dice), "".join(dice.sample(CELLS, 3))
    table = {cell: some_form(dice) for cell in cells}
    plan = times.in_turn(row, 2)
    turns = (True, False, False, True)
    for asked in (forms.is_form, deeds.is_deed, deeds.is_row, stores.is_store):
        yield asked, (row,)
        yield asked, ([row, [True, "a"]],)
    yield forms.plus, (table[cells[0]], table[cells[1]])
    yield forms.times, (table[cells[0]], dice.randint(-9, 9))
    yield forms.put_in, (some_form(dice), table)
    yield forms.worth_of, (some_form(dice), {cell: dice.randint(-50, 50) for cell in cells})
    for asked in (
            deeds.cells_of, ties.ties, ties.bare_ties, ties.longest_chain, rounds.rounds, rounds.late_rounds,
            rounds.fixed, rounds.widest, orders.normal, orders.orders_many, orders.least_row, maps.map_of,
            maps.loose_ties, needs.in_vain, needs.slim, needs.flows, times.earliest, times.least_time, times.latest,
            times.tight, texts.written_out):
        yield asked, (row,)
    for asked in (orders.are_same, orders.swaps, maps.are_alike, maps.parting_store, merging.clashes):
        yield asked, (row, other)
        yield asked, (row, orders.normal(row))
    for asked in (deeds.writers, deeds.readers, needs.needed, needs.sources):
        yield asked, (row, cells[:1])
    yield stores.worth_at, (store, cells[0])
    yield stores.run, (store, row)
    yield stores.trail, (store, row)
    yield stores.done_at_once, (store, row[:1])
    for some in (rounds.rounds(row), rounds.narrow(row, 2), (), ((0, 0),), ((0, 1, 2),)):
        yield rounds.why_not, (row, some)
        yield rounds.are_rounds, (row, some)
    yield rounds.run_rounds, (store, row, rounds.late_rounds(row))
    yield rounds.narrow, (row, 2)
    yield maps.joined, ("join", 3, row)
    yield times.planned, (row, 2, shuffled(dice, row))
    yield times.in_turn, (row, 3)
    yield times.ends_at, (row, plan)
    for hands in (1, 2):
        yield times.why_bad, (row, hands, plan)
    yield times.best_time, (row[:6], 2)
    yield merging.merged, (row, (deed("zzzz", "h"),) if merging.clashes(row, (deed("zzzz", "h"),)) == () else ())
    yield merging.renamed, (row, (("x", "y"), ("y", "x")))
    yield merging.mixed, (row, other, turns)
    yield texts.read_in, (texts.written_out(row),)
    for each in row[:2]:
        yield from ((asked, (each,)) for asked in (deeds.reads, deeds.writes, maps.is_idle))
        yield from ((asked, (each, row[-1])) for asked in (ties.are_tied, maps.commute))
        yield deeds.number_of, (row, each[0])
        yield stores.done, (store, each)
        yield from ((asked, (row, 0)) for asked in (ties.ahead, ties.behind))
    if len(row) > 1:
        yield orders.swapped, (row, 0)


def refused_calls():
    """Calls that are due a refusal, and which one."""
    row = (deed("p", "a"), deed("q", "b", "a"))
    many = tuple(deed("x" + name, "a") for name in "abcdefg")
    yield NoDeed, deeds.number_of, (row, "r")
    yield Clash, stores.done_at_once, ((), (row[0], row[0]))
    yield BadRounds, rounds.run_rounds, ((), row, ((0, 1),))
    # The deeds of this round would clash as well.
    yield BadRounds, rounds.run_rounds, ((), (row[0], deed("r", "a")), ((0, 1),))
    yield NoDeed, orders.swapped, (row, 1)
    yield TooMany, times.best_time, (many, 2)
    yield NameTaken, merging.merged, (row, row)
    yield Clash, merging.merged, (row, (deed("r", "a"),))
    yield NameTaken, merging.renamed, (row, (("p", "q"),))
    yield NoText, texts.read_in, ("p 1: a=05\n",)


class OverTheWhole(unittest.TestCase):
    def told_kinds(self, told, truths):
        """Tuples, texts, whole numbers and None; truths only where the interface says so."""
        self.assertIn(type(told), (tuple, str, int, type(None)) + ((bool,) if truths else ()))
        if type(told) is tuple:
            for inner in told:
                self.told_kinds(inner, False)

    def test_nothing_is_changed_the_same_is_told_again_and_of_the_kinds_told(self):
        dice = dice_of(111)
        asked = set()
        rows = list(some_rows(112, 15))
        for row, other in zip(rows, rows[1:]):
            for function, handed in calls(dice, row, other):
                asked.add(function)
                before = copy.deepcopy(handed)
                first = function(*handed)
                kept = copy.deepcopy(first)
                self.assertEqual(function(*handed), first)
                self.assertEqual(repr(handed), repr(before), function.__name__)
                self.assertEqual(first, kept)
                self.told_kinds(first, function in TRUTHS)
                if function in TRUTHS:
                    self.assertIs(type(first), bool)
        every = {name for names in INTERFACE.values() for name in names}
        self.assertEqual({function.__name__ for function in asked}, every)

    def test_refusals_change_nothing(self):
        for due, function, handed in refused_calls():
            before = copy.deepcopy(handed)
            for _ in range(2):
                with self.assertRaises(SideError) as caught:
                    function(*handed)
                self.assertIs(type(caught.exception), due, function.__name__)
            self.assertEqual(handed, before)

    def test_rows_told_are_rows(self):
        dice = dice_of(113)
        for row in some_rows(114, 20):
            told = [row, orders.normal(row), orders.least_row(row), needs.slim(row)]
            told.append(texts.read_in(texts.written_out(row)))
            told.append(merging.renamed(row, tuple((each[0], f"n{letter}") for each, letter in zip(row, "abcdefghij"))))
            for each in told:
                self.assertIs(deeds.is_row(each), True)
            for store in stores.trail(some_store(dice), row):
                self.assertIs(stores.is_store(store), True)
            if orders.orders_many(row) > 1:
                self.assertTrue(any(orders.swapped(row, at) is not None for at in range(len(row) - 1)))


class RowsThatAreTold(unittest.TestCase):
    def test_greater_rows_may_be_handed_in_again_where_nothing_asks_for_names(self):
        dice = dice_of(115)
        longer = 0
        for row in greater_rows(116, 15):
            longer += len(row) > 10
            if len(row) > 10 or len({each[0] for each in row}) < len(row):
                self.assertIs(deeds.is_row(row), False)
            store = some_store(dice)
            behind = stores.run(store, row)
            self.assertEqual(stores.run(store, needs.slim(row)), behind)
            self.assertEqual(stores.done(store, maps.joined("x", 1, row)), behind)
            self.assertEqual(stores.done(store, ("map", 1, maps.map_of(row))), behind)
            for some in (rounds.rounds(row), rounds.late_rounds(row), rounds.narrow(row, 2)):
                self.assertEqual(rounds.run_rounds(store, row, some), behind)
            self.assertIsNone(times.why_bad(row, 2, times.planned(row, 2, shuffled(dice, row))))
            self.assertEqual(orders.swaps(row, row), 0)
            for at in range(len(row) - 1):
                there = orders.swapped(row, at)
                if there is not None:
                    self.assertEqual(orders.swaps(row, there), 1)
                    self.assertEqual(stores.run(store, there), behind)
            self.assertIs(maps.are_alike(row, needs.slim(row)), True)
            self.assertEqual(len(times.earliest(row)), len(row))
            self.assertEqual(merging.clashes(row, ()), ())
        self.assertGreater(longer, 10)


class PointByPoint(unittest.TestCase):
    def test_a_rounds_that_have_no_fault(self):
        dice = dice_of(121)
        good = 0
        for row in some_rows(122, 20, 4):
            fewest = len(rounds.rounds(row))
            self.assertIs(rounds.are_rounds(row, rounds.rounds(row)), True)
            # All ways to give each deed one of as many rounds as there are deeds at the most.
            for places in itertools.product(range(len(row)), repeat=len(row)):
                many = max(places, default=-1) + 1
                some = tuple(tuple(at for at in range(len(row)) if places[at] == place) for place in range(many))
                if rounds.are_rounds(row, some):
                    good += 1
                    self.assertGreaterEqual(len(some), fewest)
                    store = some_store(dice)
                    self.assertEqual(rounds.run_rounds(store, row, some), stores.run(store, row))
        self.assertGreater(good, 200)

    def test_b_rows_that_are_the_same(self):
        dice = dice_of(123)
        for row in some_rows(124, 20):
            other = row
            steps = 0
            for _ in range(20):
                there = orders.swapped(other, dice.randrange(len(row) - 1)) if len(row) > 1 else None
                if there is not None:
                    other, steps = there, steps + 1
            self.assertIs(orders.are_same(row, other), True)
            self.assertLessEqual(orders.swaps(row, other), steps)
            self.assertIs(maps.are_alike(row, other), True)
            # As few swaps as told lead there: each of them can bring the rest down by one.
            while orders.swaps(row, other):
                left = orders.swaps(row, other)
                nearer = [orders.swapped(other, at) for at in range(len(row) - 1)]
                other = next(each for each in nearer if each is not None and orders.swaps(row, each) == left - 1)
            self.assertEqual(other, row)

    def test_c_maps_judge_rows(self):
        dice = dice_of(125)
        alike = 0
        rows = list(some_rows(126, 8, 3))
        rows += [maker(row) for row in some_rows(126, 8, 3) for maker in (orders.least_row, needs.slim)]
        for one, other in itertools.product(rows, repeat=2):
            store = maps.parting_store(one, other)
            self.assertIs(maps.are_alike(one, other), store is None)
            if store is None:
                alike += one != other
                store = some_store(dice)
                self.assertEqual(stores.run(store, one), stores.run(store, other))
            else:
                self.assertNotEqual(stores.run(store, one), stores.run(store, other))
        self.assertGreater(alike, 5)

    def test_d_what_is_in_vain_and_what_decides(self):
        dice = dice_of(127)
        for row in some_rows(128, 20):
            store, cells = some_store(dice), "".join(dice.sample(CELLS, dice.randrange(4)))
            self.assertEqual(stores.run(store, needs.slim(row)), stores.run(store, row))
            told = needs.sources(row, cells)
            bare = tuple(pair for pair in store if pair[0] in told)
            for cell in cells:
                self.assertEqual(stores.worth_at(stores.run(bare, row), cell),
                                 stores.worth_at(stores.run(store, row), cell))

    def test_e_plans(self):
        dice = dice_of(129)
        for row in some_rows(130, 15, 6):
            for hands in (1, 2, 3):
                best = times.best_time(row, hands)
                plans = [times.in_turn(row, hands), times.planned(row, hands, shuffled(dice, row))]
                # Later begins on the same hands have no fault either.
                plans.append(tuple((number, hand, begin * 2 + 1) for number, hand, begin in plans[0]))
                for plan in plans:
                    self.assertIsNone(times.why_bad(row, hands, plan))
                    end = times.ends_at(row, plan)
                    self.assertGreaterEqual(end, best)
                    self.assertGreaterEqual(best, sum(row[number][1] for number in ties.longest_chain(row)))
                    self.assertGreaterEqual(best * hands, sum(each[1] for each in row))
                    steps = sorted(plan, key=lambda step: step[2] + row[step[0]][1])
                    self.assertIs(maps.are_alike(tuple(row[step[0]] for step in steps), row), True)

    def test_f_rows_that_do_not_clash(self):
        dice = dice_of(131)
        free = 0
        rows = [row for row in some_rows(132, 25, 4) if row]
        for one, other in itertools.product(rows, repeat=2):
            if merging.clashes(one, other) == ():
                free += 1
                turns = tuple(dice.choice((True, False)) for _ in range(dice.randrange(10)))
                self.assertIs(maps.are_alike(merging.mixed(one, other, turns), one + other), True)
        self.assertGreater(free, 20)

    def test_g_runners(self):
        dice = dice_of(133)
        ended = 0
        for row in some_rows(134, 20):
            first = some_store(dice)
            runner = Runner(first)
            waiting = list(row)
            while waiting or runner.going_on():
                if waiting and dice.random() < 0.6:
                    each = waiting.pop(0)
                    try:
                        runner.begin(each)
                    except Locked:
                        wrote, touched = runner.locked()
                        reads, writes = set(deeds.reads(each)), set(deeds.writes(each))
                        self.assertTrue(writes & set(touched) or reads & set(wrote))
                        waiting.append(each)
                elif runner.going_on():
                    runner.end(dice.choice(runner.going_on()))
                    ended += 1
                    self.assertEqual(runner.store(), stores.run(first, runner.log()))
            self.assertEqual(sorted(runner.log()), sorted(row))
        self.assertGreater(ended, 100)

    def test_h_texts(self):
        rows = {row for row in some_rows(135, 40)}
        found = {texts.written_out(row) for row in rows}
        self.assertEqual(len(found), len(rows))
        self.assertEqual({texts.read_in(text) for text in found}, rows)


if __name__ == "__main__":
    unittest.main()
