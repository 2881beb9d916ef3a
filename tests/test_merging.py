"""[9.1] over [0.2] (f): rows of two hands, their clashes, and how they are brought into one."""

import copy
import itertools
import unittest

from sidedeeds.errors import Clash, NameTaken, SideError
from sidedeeds.maps import are_alike
from sidedeeds.merging import clashes, merged, mixed, renamed
from sidedeeds.stores import run
from things import CELLS, deed, dice_of, some_light_row, some_store

P, Q, R = deed("p", "a"), deed("q", "b", "a"), deed("r", "c", "h")
X, Y, Z = deed("x", "d"), deed("y", "e", "dh"), deed("z", "f")
ONE, OTHER = (P, Q, R), (X, Y, Z)


def clashes_by_the_words(one, other):
    """Deed by deed: what a row writes, and what it reads without having written it ahead."""
    wrote, read = [], []
    for row in (one, other):
        wrote.append(set())
        read.append(set())
        for name, ticks, parts in row:
            read[-1] |= {cell for part, form in parts for cell, many in form[1]} - wrote[-1]
            wrote[-1] |= {cell for cell, form in parts}
    found = (wrote[0] & (wrote[1] | read[1])) | (wrote[1] & (wrote[0] | read[0]))
    return tuple(sorted(found))


def rows_over(dice, many, cells, letter):
    """A row whose deeds write some of these cells and read those, and others that nobody writes."""
    row = []
    for at in range(many):
        read = "".join(sorted(dice.sample(cells + "gh", dice.randrange(3))))
        wrote = "".join(sorted(dice.sample(cells, dice.choice((1, 1, 2)))))
        form = (dice.randint(-9, 9), tuple((cell, dice.choice((-2, -1, 1, 3))) for cell in read))
        row.append((letter + CELLS[at], dice.randint(1, 9), tuple((cell, form) for cell in wrote)))
    return tuple(row)


class Clashes(unittest.TestCase):
    def both_ways(self, one, other, told):
        self.assertEqual(clashes(one, other), told)
        self.assertEqual(clashes(other, one), told)

    def test_none(self):
        self.both_ways(ONE, OTHER, ())
        self.both_ways((), (), ())
        self.both_ways(ONE, (), ())

    def test_one_writes_what_the_other_reads(self):
        self.both_ways((P,), (deed("x", "b", "a"),), ("a",))

    def test_both_write_a_cell(self):
        self.both_ways((P,), (deed("x", "a"),), ("a",))
        self.both_ways(ONE, (deed("x", "bh"),), ("b", "h"))

    def test_both_read_a_cell(self):
        self.both_ways((R,), (Y,), ())

    def test_a_cell_that_a_row_reads_only_behind_having_written_it(self):
        # q reads a behind p, which writes it.
        self.both_ways((P, Q), (deed("x", "d"),), ())
        # The other row reads a, which this one writes; or writes it, as this one does.
        self.both_ways((P, Q), (deed("x", "d", "a"),), ("a",))
        self.both_ways((P, Q), (deed("x", "a"),), ("a",))
        # Both read a only behind having written it, but both write it.
        self.both_ways((P, Q), (deed("x", "a"), deed("y", "d", "a")), ("a",))

    def test_a_cell_that_a_row_reads_ahead_of_writing_it(self):
        self.both_ways((deed("p", "b", "a"), deed("q", "a")), (deed("x", "a"),), ("a",))
        self.both_ways((deed("p", "a", "a"),), (deed("x", "a"),), ("a",))

    def test_rising_and_each_once(self):
        one = (deed("p", "h"), deed("q", "ah"), deed("r", "c", "h"))
        other = (deed("x", "h", "ca"), deed("y", "g", "a"))
        self.both_ways(one, other, ("a", "c", "h"))

    def test_within_one_row_is_no_clash(self):
        self.both_ways((P, deed("q", "a", "a")), (X,), ())

    def test_names_do_not_count(self):
        self.both_ways((P,), (deed("p", "b"),), ())


class Merged(unittest.TestCase):
    def test_one_then_other(self):
        self.assertEqual(merged(ONE, OTHER), ONE + OTHER)
        self.assertEqual(merged(OTHER, ONE), OTHER + ONE)

    def test_no_deeds(self):
        self.assertEqual(merged((), ()), ())
        self.assertEqual(merged(ONE, ()), ONE)
        self.assertEqual(merged((), ONE), ONE)

    def test_name_taken(self):
        for other in ((deed("p", "d"),), (X, deed("r", "e")), (deed("q", "d"), Y)):
            for pair in ((ONE, other), (other, ONE)):
                with self.assertRaises(NameTaken) as caught:
                    merged(*pair)
                self.assertIsInstance(caught.exception, SideError)
                self.assertNotIsInstance(caught.exception, Clash)

    def test_clash(self):
        for other in ((deed("x", "a"),), (X, deed("y", "h")), (deed("x", "d", "b"),)):
            for pair in ((ONE, other), (other, ONE)):
                with self.assertRaises(Clash):
                    merged(*pair)

    def test_name_taken_ahead_of_clash(self):
        for other in ((P,), (deed("x", "a"), deed("p", "d")), (deed("p", "d"), deed("x", "a"))):
            for pair in ((ONE, other), (other, ONE)):
                with self.assertRaises(NameTaken):
                    merged(*pair)

    def test_more_deeds_than_a_row_has(self):
        one = tuple(deed("o" + name, "a") for name in "abcdefgh")
        other = tuple(deed("t" + name, "b") for name in "abcdefgh")
        self.assertEqual(merged(one, other), one + other)


class Renamed(unittest.TestCase):
    def names(self, table, row=ONE):
        told = renamed(row, table)
        self.assertEqual([each[1:] for each in told], [each[1:] for each in row])
        self.assertIs(type(told), tuple)
        return tuple(each[0] for each in told)

    def test_some_names(self):
        self.assertEqual(self.names((("p", "new"),)), ("new", "q", "r"))
        self.assertEqual(self.names((("r", "a"), ("p", "b"))), ("b", "q", "a"))

    def test_no_pairs_and_no_deeds(self):
        self.assertEqual(renamed(ONE, ()), ONE)
        self.assertEqual(renamed((), ()), ())
        self.assertEqual(renamed((), (("p", "q"),)), ())

    def test_names_exchanged(self):
        self.assertEqual(self.names((("p", "q"), ("q", "p"))), ("q", "p", "r"))

    def test_round_a_ring(self):
        self.assertEqual(self.names((("p", "q"), ("q", "r"), ("r", "p"))), ("q", "r", "p"))
        self.assertEqual(self.names((("r", "p"), ("q", "r"), ("p", "q"))), ("q", "r", "p"))

    def test_moved_on_all_at_once(self):
        self.assertEqual(self.names((("p", "q"), ("q", "s"))), ("q", "s", "r"))

    def test_a_name_that_is_not_in_the_row(self):
        self.assertEqual(renamed(ONE, (("x", "y"),)), ONE)
        # No deed is called q by this, so two are not called alike.
        self.assertEqual(renamed(ONE, (("x", "q"),)), ONE)
        self.assertEqual(self.names((("x", "q"), ("p", "x"))), ("x", "q", "r"))

    def test_a_name_to_itself(self):
        self.assertEqual(renamed(ONE, (("p", "p"), ("q", "q"))), ONE)

    def test_two_called_alike(self):
        for table in ((("p", "q"),), (("p", "new"), ("r", "new")), (("p", "q"), ("q", "r")), (("r", "p"), ("x", "y"))):
            with self.assertRaises(NameTaken):
                renamed(ONE, table)


class Mixed(unittest.TestCase):
    def test_by_turns(self):
        self.assertEqual(mixed(ONE, OTHER, (True, False, False, True, True, False)), (P, X, Y, Q, R, Z))
        self.assertEqual(mixed(ONE, OTHER, (False, False, False, True, True, True)), OTHER + ONE)

    def test_no_turns(self):
        self.assertEqual(mixed(ONE, OTHER, ()), ONE + OTHER)
        self.assertEqual(mixed((), (), ()), ())

    def test_too_few(self):
        self.assertEqual(mixed(ONE, OTHER, (False,)), (X, P, Q, R, Y, Z))
        self.assertEqual(mixed(ONE, OTHER, (False, True, False)), (X, P, Y, Q, R, Z))

    def test_too_many(self):
        self.assertEqual(mixed(ONE, OTHER, (True,) * 9 + (False,) * 9), ONE + OTHER)
        self.assertEqual(mixed(ONE, OTHER, (False,) * 4 + (True,) * 4), OTHER + ONE)

    def test_a_turn_of_which_there_is_no_deed_is_passed_over(self):
        self.assertEqual(mixed((P,), OTHER, (True, True, False, True, False)), (P, X, Y, Z))
        self.assertEqual(mixed(ONE, (X,), (False, False, True, False)), (X, P, Q, R))

    def test_no_deeds_of_one(self):
        for turns in ((), (True,), (False, True, False)):
            self.assertEqual(mixed((), OTHER, turns), OTHER)
            self.assertEqual(mixed(ONE, (), turns), ONE)

    def test_rows_that_clash_and_names_that_are_alike(self):
        self.assertEqual(mixed((P, Q), (P, Q), (True, False)), (P, P, Q, Q))


class AgainstTheWords(unittest.TestCase):
    def test_clashes_and_merged(self):
        dice = dice_of(81)
        kinds = {}
        for _ in range(300):
            one, other = some_light_row(dice, dice.randrange(4)), some_light_row(dice, dice.randrange(4))
            new = dice.choice("lm")
            other = tuple((name.replace("l", new), ticks, parts) for name, ticks, parts in other)
            before = copy.deepcopy((one, other))
            told = clashes_by_the_words(one, other)
            for _ in range(2):
                self.assertEqual(clashes(one, other), told)
                self.assertEqual(clashes(other, one), told)
            due = NameTaken if one and other and new == "l" else Clash if told else None
            kinds[due] = kinds.get(due, 0) + 1
            if due is None:
                self.assertEqual(merged(one, other), one + other)
            else:
                with self.assertRaises(due):
                    merged(one, other)
            self.assertEqual((one, other), before)
        self.assertGreater(min(kinds.values()), 20, kinds)
        self.assertEqual(len(kinds), 3)

    def test_rows_that_do_not_clash_do_the_same_in_whatever_mix(self):
        dice = dice_of(82)
        for _ in range(100):
            one, other = rows_over(dice, dice.randrange(6), "abc", "o"), rows_over(dice, dice.randrange(6), "def", "t")
            self.assertEqual(clashes(one, other), ())
            store = some_store(dice)
            behind = run(store, merged(one, other))
            for _ in range(5):
                turns = tuple(dice.choice((True, False)) for _ in range(dice.randrange(13)))
                mix = mixed(one, other, turns)
                self.assertEqual(run(store, mix), behind)
                self.assertIs(are_alike(mix, merged(other, one)), True)

    def test_mixed_keeps_both_orders(self):
        dice = dice_of(83)
        for _ in range(100):
            one, other = rows_over(dice, dice.randrange(6), "abc", "o"), rows_over(dice, dice.randrange(6), "abc", "t")
            turns = tuple(dice.choice((True, False)) for _ in range(dice.randrange(13)))
            before = copy.deepcopy((one, other, turns))
            mix = mixed(one, other, turns)
            self.assertEqual(mixed(one, other, turns), mix)
            self.assertEqual((one, other, turns), before)
            self.assertEqual(tuple(each for each in mix if each[0][0] == "o"), one)
            self.assertEqual(tuple(each for each in mix if each[0][0] == "t"), other)
            # Turn by turn, as long as both have deeds left.
            for at, turn in itertools.islice(enumerate(turns), min(len(one), len(other))):
                self.assertEqual(mix[at][0][0], "o" if turn else "t")


if __name__ == "__main__":
    unittest.main()
