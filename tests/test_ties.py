"""[3.1] over [0.2]: ties, what is ahead and behind, bare ties, the longest chain."""

import copy
import itertools
import unittest

from sidedeeds.stores import run
from sidedeeds.ties import ahead, are_tied, bare_ties, behind, longest_chain, ties
from things import deed, dice_of, some_light_row, some_row, some_store, tied_by_the_words


# Each one is tied to the next and to no other one.
CHAIN = (deed("p", "a"), deed("q", "b", "a"), deed("r", "c", "b"), deed("s", "d", "c"), deed("t", "e", "d"))
# 0 and 1 lead to 2 and 3, these to 5; 4 stands alone.
FORK = (
    deed("p", "a"), deed("q", "b"), deed("r", "c", "ab"), deed("s", "d", "ab"), deed("t", "h"), deed("u", "e", "cd"))
ALONE = (deed("p", "a", "h"), deed("q", "b", "h"), deed("r", "c", "gh"))


def ties_by_the_words(row):
    return {(one, other) for one, other in itertools.combinations(range(len(row)), 2)
            if tied_by_the_words(row[one], row[other])}


def all_pairs(tied):
    """The ties and all that follows from them, step by step until nothing is new."""
    pairs = set(tied)
    while True:
        more = {(one, last) for one, other in pairs for first, last in pairs if first == other} - pairs
        if not more:
            return pairs
        pairs |= more


def chains_by_the_words(row):
    tied = ties_by_the_words(row)
    for many in range(len(row) + 1):
        for chain in itertools.combinations(range(len(row)), many):
            if all(pair in tied for pair in zip(chain, chain[1:])):
                yield chain


class AreTied(unittest.TestCase):
    def both_ways(self, one, other, told):
        self.assertIs(are_tied(one, other), told)
        self.assertIs(are_tied(other, one), told)

    def test_one_writes_what_the_other_reads(self):
        self.both_ways(deed("x", "a"), deed("y", "b", "a"), True)
        self.both_ways(deed("x", "ab"), deed("y", "c", "bd"), True)

    def test_both_write_one_cell(self):
        self.both_ways(deed("x", "a"), deed("y", "a"), True)
        self.both_ways(deed("x", "ah"), deed("y", "bh"), True)

    def test_reads_only_in_common_are_no_tie(self):
        self.both_ways(deed("x", "a", "c"), deed("y", "b", "c"), False)
        self.both_ways(deed("x", "ab", "efgh"), deed("y", "cd", "efgh"), False)

    def test_nothing_in_common(self):
        self.both_ways(deed("x", "a", "b"), deed("y", "c", "d"), False)
        self.both_ways(deed("x", "a"), deed("y", "b"), False)

    def test_what_a_deed_does_with_its_own_cells_is_no_tie(self):
        self.both_ways(deed("x", "a", "a"), deed("y", "b", "b"), False)

    def test_reads_of_a_later_part(self):
        later = ("x", 1, (("a", (0, ())), ("b", (0, (("d", 1), ("h", -1))))))
        self.both_ways(later, deed("y", "h"), True)
        self.both_ways(later, deed("y", "g"), False)

    def test_names_do_not_count(self):
        self.both_ways(deed("x", "a"), deed("x", "b"), False)
        self.both_ways(deed("x", "a"), deed("x", "a"), True)

    def test_deeds_of_more_parts(self):
        self.both_ways(deed("x", "abcdefg"), deed("y", "h", "g"), True)
        self.both_ways(deed("x", "abcdefg"), deed("y", "h"), False)


class Ties(unittest.TestCase):
    def test_plain_rows(self):
        self.assertEqual(ties(CHAIN), ((0, 1), (1, 2), (2, 3), (3, 4)))
        self.assertEqual(ties(FORK), ((0, 2), (0, 3), (1, 2), (1, 3), (2, 5), (3, 5)))

    def test_none(self):
        self.assertEqual(ties(()), ())
        self.assertEqual(ties(CHAIN[:1]), ())
        self.assertEqual(ties((deed("x", "a", "a"),)), ())
        self.assertEqual(ties(ALONE), ())

    def test_one_that_reads_ahead_of_one_that_writes(self):
        self.assertEqual(ties((deed("x", "b", "a"), deed("y", "c"), deed("z", "a"))), ((0, 2),))

    def test_all(self):
        row = tuple(deed("x" + name, "a") for name in "abcdefghij")
        self.assertEqual(ties(row), tuple(itertools.combinations(range(10), 2)))


class AheadAndBehind(unittest.TestCase):
    def test_over_several_steps(self):
        self.assertEqual([ahead(CHAIN, number) for number in range(5)], [(), (0,), (0, 1), (0, 1, 2), (0, 1, 2, 3)])
        told = [(1, 2, 3, 4), (2, 3, 4), (3, 4), (4,), ()]
        self.assertEqual([behind(CHAIN, number) for number in range(5)], told)

    def test_over_several_ways(self):
        self.assertEqual([ahead(FORK, number) for number in range(6)], [(), (), (0, 1), (0, 1), (), (0, 1, 2, 3)])
        self.assertEqual([behind(FORK, number) for number in range(6)], [(2, 3, 5), (2, 3, 5), (5,), (5,), (), ()])

    def test_steps_lead_one_way_only(self):
        # 0 and 1 are both ahead of 2, and neither of the other.
        row = (deed("x", "a"), deed("y", "b"), deed("z", "c", "ab"))
        self.assertEqual(behind(row, 0), (2,))
        self.assertEqual(ahead(row, 1), ())
        # 1 and 2 are both behind 0, and neither of the other.
        row = (deed("x", "a"), deed("y", "b", "a"), deed("z", "c", "a"))
        self.assertEqual(ahead(row, 2), (0,))
        self.assertEqual(behind(row, 1), ())

    def test_steps_that_cross(self):
        # 0 leads to 3, 3 to 4, 1 to 4; 2 to 3.
        row = (deed("p", "a"), deed("q", "b"), deed("r", "c"), deed("s", "d", "ac"), deed("t", "e", "bd"))
        self.assertEqual(ahead(row, 4), (0, 1, 2, 3))
        self.assertEqual(behind(row, 0), (3, 4))
        self.assertEqual(behind(row, 1), (4,))

    def test_rising_in_a_row_of_ten(self):
        row = (deed("p", "h"), deed("q", "a")) + tuple(deed("x" + cell, cell) for cell in "bcdefg")
        row = row + (deed("r", "h", "a"), deed("s", "g", "h"))
        self.assertEqual(ahead(row, 9), (0, 1, 7, 8))
        row = (deed("p", "a"), deed("q", "b", "a")) + tuple(deed("x" + cell, cell) for cell in "cdefgh")
        row = row + (deed("r", "g", "a"), deed("s", "h", "a"))
        self.assertEqual(behind(row, 0), (1, 8, 9))

    def test_a_deed_alone(self):
        self.assertEqual(ahead(CHAIN[:1], 0), ())
        self.assertEqual(behind(CHAIN[:1], 0), ())
        self.assertEqual([ahead(ALONE, number) + behind(ALONE, number) for number in range(3)], [(), (), ()])


class BareTies(unittest.TestCase):
    def test_a_third_deed_between(self):
        row = (deed("x", "a"), deed("y", "b", "a"), deed("z", "c", "ab"))
        self.assertEqual(ties(row), ((0, 1), (0, 2), (1, 2)))
        self.assertEqual(bare_ties(row), ((0, 1), (1, 2)))

    def test_several_deeds_between(self):
        row = CHAIN[:4] + (deed("t", "e", "ad"),)
        self.assertIn((0, 4), ties(row))
        self.assertEqual(bare_ties(row), ((0, 1), (1, 2), (2, 3), (3, 4)))

    def test_no_third_deed_between(self):
        self.assertEqual(bare_ties(CHAIN), ties(CHAIN))
        self.assertEqual(bare_ties(FORK), ties(FORK))
        # 1 is behind 0, but not ahead of 2; then 1 is ahead of 2, but not behind 0.
        row = (deed("x", "a"), deed("y", "b", "a"), deed("z", "c", "a"))
        self.assertEqual(bare_ties(row), ((0, 1), (0, 2)))
        row = (deed("x", "a"), deed("y", "b"), deed("z", "c", "ab"))
        self.assertEqual(bare_ties(row), ((0, 2), (1, 2)))

    def test_none(self):
        self.assertEqual(bare_ties(()), ())
        self.assertEqual(bare_ties(CHAIN[:1]), ())
        self.assertEqual(bare_ties(ALONE), ())

    def test_all_write_one_cell(self):
        row = tuple(deed("x" + name, "a") for name in "abcdefghij")
        self.assertEqual(bare_ties(row), tuple((number, number + 1) for number in range(9)))


class LongestChain(unittest.TestCase):
    def test_without_deeds(self):
        self.assertEqual(longest_chain(()), ())

    def test_one_deed(self):
        self.assertEqual(longest_chain(CHAIN[:1]), (0,))

    def test_deeds_without_ties(self):
        self.assertEqual(longest_chain(ALONE), (0,))

    def test_a_chain(self):
        self.assertEqual(longest_chain(CHAIN), (0, 1, 2, 3, 4))
        self.assertEqual(longest_chain((deed("x", "h"),) + CHAIN), (1, 2, 3, 4, 5))

    def test_of_several_the_least(self):
        self.assertEqual(longest_chain(FORK), (0, 2, 5))
        # 0 and 3, 1 and 2: alike in length.
        row = (deed("p", "a"), deed("q", "b"), deed("r", "c", "b"), deed("s", "d", "a"))
        self.assertEqual(longest_chain(row), (0, 3))
        # From 0 on by 2 or by 1.
        self.assertEqual(longest_chain((deed("p", "a"), deed("q", "b", "a"), deed("r", "c", "a"))), (0, 1))

    def test_the_longest_is_told_and_not_the_least(self):
        # 0 leads to 1; 2 leads to 3, and 3 to 4.
        row = (deed("p", "a"), deed("q", "b", "a"), deed("r", "c"), deed("s", "d", "c"), deed("t", "e", "d"))
        self.assertEqual(longest_chain(row), (2, 3, 4))
        # From 0 on by 1 it ends; by 2 it goes on to 3.
        row = (deed("p", "a"), deed("q", "b", "a"), deed("r", "c", "a"), deed("s", "d", "c"))
        self.assertEqual(longest_chain(row), (0, 2, 3))

    def test_each_is_tied_to_the_next_itself(self):
        # 0 and 3 are tied as well, which makes no longer chain.
        row = (deed("p", "a"), deed("q", "b", "a"), deed("r", "h"), deed("s", "c", "ab"))
        self.assertEqual(longest_chain(row), (0, 1, 3))

    def test_more_deeds_and_names_that_are_alike(self):
        self.assertEqual(longest_chain((CHAIN[0], deed("x", "h")) * 10), tuple(range(0, 20, 2)))


class AgainstTheWords(unittest.TestCase):
    def rows(self, seed, many):
        dice = dice_of(seed)
        for _ in range(many):
            yield some_light_row(dice, dice.randrange(11))
        for _ in range(many // 10):
            yield some_row(dice, dice.randrange(6))

    def test_ties(self):
        for row in self.rows(21, 200):
            before = copy.deepcopy(row)
            for _ in range(2):
                self.assertEqual(ties(row), tuple(sorted(ties_by_the_words(row))))
            for one, other in itertools.permutations(row, 2):
                self.assertIs(are_tied(one, other), tied_by_the_words(one, other))
            self.assertEqual(row, before)

    def test_ahead_behind_and_bare_ties(self):
        for row in self.rows(22, 200):
            pairs = all_pairs(ties_by_the_words(row))
            for number in range(len(row)):
                self.assertEqual(ahead(row, number), tuple(sorted(one for one, other in pairs if other == number)))
                self.assertEqual(behind(row, number), tuple(sorted(other for one, other in pairs if one == number)))
            bare = [(one, other) for one, other in ties_by_the_words(row)
                    if not any((one, third) in pairs and (third, other) in pairs for third in range(len(row)))]
            self.assertEqual(bare_ties(row), tuple(sorted(bare)))

    def test_longest_chain(self):
        for row in self.rows(23, 200):
            chains = list(chains_by_the_words(row))
            most = max(len(chain) for chain in chains)
            self.assertEqual(longest_chain(row), min(chain for chain in chains if len(chain) == most))

    def test_neighbours_that_are_not_tied_may_be_swapped(self):
        dice = dice_of(24)
        swapped = 0
        for row in self.rows(25, 200):
            for at in range(len(row) - 1):
                if not are_tied(row[at], row[at + 1]):
                    swapped += 1
                    store = some_store(dice)
                    other = row[:at] + (row[at + 1], row[at]) + row[at + 2:]
                    self.assertEqual(run(store, row), run(store, other))
        self.assertGreater(swapped, 100)


if __name__ == "__main__":
    unittest.main()
