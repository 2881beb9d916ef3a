"""[7.1] over [0.2] (d): on which deeds and on which cells worths hang, and what may be left out."""

import copy
import unittest

from sidedeeds.maps import map_of
from sidedeeds.needs import flows, in_vain, needed, slim, sources
from sidedeeds.stores import run, worth_at
from things import CELLS, deed, dice_of, some_light_row, some_row, some_store

# 0 leads over 1 to 3; 2 is overwritten by 4 without having been read; 5 stands alone.
ROW = (
    deed("p", "a", "h"), deed("q", "b", "a"), deed("r", "d", "b"), deed("s", "c", "bg"), deed("t", "d"),
    deed("u", "e", "f"))


def wrote(each):
    return {cell for cell, form in each[2]}


def read(each):
    return {cell for part, form in each[2] for cell, many in form[1]}


def last_ahead(row, cell, end):
    told = None
    for number in range(end):
        if cell in wrote(row[number]):
            told = number
    return told


def hung_by_the_words(row, cells):
    """The numbers and the cells to which it leads back, cell by cell."""
    numbers, ahead = set(), set()
    waiting = [(cell, len(row)) for cell in cells]
    seen = set(waiting)
    while waiting:
        cell, end = waiting.pop()
        writer = last_ahead(row, cell, end)
        if writer is None:
            ahead.add(cell)
            continue
        numbers.add(writer)
        for more in read(row[writer]):
            if (more, writer) not in seen:
                seen.add((more, writer))
                waiting.append((more, writer))
    return tuple(sorted(numbers)), tuple(sorted(ahead))


def some_rows(seed, many):
    dice = dice_of(seed)
    for _ in range(many):
        yield some_light_row(dice, dice.randrange(11))
    for _ in range(many // 5):
        yield some_row(dice, dice.randrange(11))


class Needed(unittest.TestCase):
    def test_the_last_writer(self):
        self.assertEqual(needed(ROW, "d"), (4,))
        self.assertEqual(needed(ROW, "e"), (5,))
        self.assertEqual(needed((deed("x", "a"), deed("y", "a")), "a"), (1,))

    def test_and_so_on_back_over_what_it_reads(self):
        self.assertEqual(needed(ROW, "a"), (0,))
        self.assertEqual(needed(ROW, "b"), (0, 1))
        self.assertEqual(needed(ROW, "c"), (0, 1, 3))

    def test_of_each_cell(self):
        self.assertEqual(needed(ROW, "ad"), (0, 4))
        self.assertEqual(needed(ROW, "ed"), (4, 5))
        self.assertEqual(needed(ROW, CELLS), (0, 1, 3, 4, 5))

    def test_a_writer_behind_the_reader_does_not_count(self):
        row = (deed("x", "a"), deed("y", "b", "a"), deed("z", "a"))
        self.assertEqual(needed(row, "b"), (0, 1))
        self.assertEqual(needed(row, "a"), (2,))
        self.assertEqual(needed(row, "ab"), (0, 1, 2))

    def test_two_readers_of_unlike_writers(self):
        row = (deed("w", "a"), deed("x", "b", "a"), deed("y", "a"), deed("z", "c", "ab"))
        self.assertEqual(needed(row, "c"), (0, 1, 2, 3))

    def test_a_deed_that_reads_its_own_cell(self):
        row = (deed("x", "a"), deed("y", "a", "a"), deed("z", "a", "a"))
        self.assertEqual(needed(row, "a"), (0, 1, 2))
        self.assertEqual(needed(row + (deed("w", "a"),), "a"), (3,))

    def test_all_that_a_needed_deed_reads_counts(self):
        # Only the part of c is asked for, but the deed reads b for its part d.
        both = ("x", 1, (("c", (0, (("a", 1),))), ("d", (0, (("b", 1),)))))
        row = (deed("p", "a"), deed("q", "b"), both)
        self.assertEqual(needed(row, "c"), (0, 1, 2))
        self.assertEqual(sources((both,), "c"), ("a", "b"))

    def test_a_deed_that_writes_more_than_is_asked_for(self):
        # It writes b as well, but b is written again ahead of being asked for.
        row = (deed("x", "ab", "g"), deed("y", "b"), deed("z", "c", "ab"))
        self.assertEqual(needed(row, "c"), (0, 1, 2))
        self.assertEqual(needed(row, "b"), (1,))

    def test_forms_that_come_to_nothing_count_all_the_same(self):
        # b is worth a - a in the end, but the last writer reads a.
        row = (deed("x", "a"), ("y", 1, (("c", (0, (("a", 1),))),)), ("z", 1, (("b", (0, (("a", 1), ("c", -1)))),)))
        self.assertEqual(needed(row, "b"), (0, 1, 2))

    def test_no_cells(self):
        self.assertEqual(needed(ROW, ""), ())
        self.assertEqual(needed((), ""), ())

    def test_cells_that_nobody_writes(self):
        self.assertEqual(needed(ROW, "h"), ())
        self.assertEqual(needed(ROW, "fgh"), ())
        self.assertEqual(needed(ROW, "hd"), (4,))
        self.assertEqual(needed((), CELLS), ())

    def test_a_cell_said_twice_and_cells_in_any_order(self):
        self.assertEqual(needed(ROW, "dd"), (4,))
        self.assertEqual(needed(ROW, "dcdc"), needed(ROW, "cd"))
        self.assertEqual(needed(ROW, "hgfedcba"), needed(ROW, CELLS))

    def test_names_that_are_alike(self):
        self.assertEqual(needed(ROW * 2, "c"), (6, 7, 9))


class InVainAndSlim(unittest.TestCase):
    def test_the_others(self):
        self.assertEqual(in_vain(ROW), (2,))
        self.assertEqual(slim(ROW), ROW[:2] + ROW[3:])

    def test_only_read_by_a_deed_in_vain(self):
        row = (deed("w", "a"), deed("x", "b", "a"), deed("y", "a"), deed("z", "b"))
        self.assertEqual(in_vain(row), (0, 1))
        self.assertEqual(slim(row), row[2:])

    def test_none_in_vain(self):
        for row in ((), (deed("x", "a"),), (deed("x", "a"), deed("y", "a", "a")), ROW[:2]):
            self.assertEqual(in_vain(row), ())
            self.assertEqual(slim(row), row)

    def test_all_but_one(self):
        row = tuple(deed("x" + name, "h") for name in "abcdefghij")
        self.assertEqual(in_vain(row), tuple(range(9)))
        self.assertEqual(slim(row), row[9:])

    def test_one_of_two_parts_is_enough(self):
        row = (deed("x", "ab"), deed("y", "a"))
        self.assertEqual(in_vain(row), ())
        self.assertEqual(in_vain(row + (deed("z", "b"),)), (0,))

    def test_an_idle_deed_that_is_the_last_to_write_is_not_in_vain(self):
        row = (("x", 1, (("a", (0, (("a", 1),))),)),)
        self.assertEqual(in_vain(row), ())

    def test_every_cell_is_asked_for(self):
        for cell in CELLS:
            self.assertEqual(in_vain((deed("x", cell),)), ())
            self.assertEqual(in_vain((deed("x", cell), deed("y", cell))), (0,))


class Sources(unittest.TestCase):
    def test_cells_ahead_of_the_row(self):
        self.assertEqual(sources(ROW, "c"), ("g", "h"))
        self.assertEqual(sources(ROW, "a"), ("h",))
        self.assertEqual(sources(ROW, "e"), ("f",))
        self.assertEqual(sources(ROW, CELLS), ("f", "g", "h"))

    def test_none(self):
        self.assertEqual(sources(ROW, "d"), ())
        self.assertEqual(sources(ROW, ""), ())
        self.assertEqual(sources((), ""), ())

    def test_a_cell_that_nobody_writes_is_its_own(self):
        self.assertEqual(sources(ROW, "h"), ("h",))
        self.assertEqual(sources((), "ca"), ("a", "c"))
        self.assertEqual(sources(ROW, "gfd"), ("f", "g"))

    def test_a_deed_that_reads_its_own_cell(self):
        self.assertEqual(sources((deed("x", "a", "a"),), "a"), ("a",))
        self.assertEqual(sources((deed("x", "a"), deed("y", "a", "a")), "a"), ())
        self.assertEqual(sources((deed("x", "a", "b"), deed("y", "b", "a")), "ab"), ("b",))

    def test_a_cell_said_twice(self):
        self.assertEqual(sources(ROW, "cchh"), ("g", "h"))

    def test_written_only_behind(self):
        self.assertEqual(sources((deed("x", "b", "a"), deed("y", "a")), "b"), ("a",))
        self.assertEqual(sources((deed("x", "b", "a"), deed("y", "a")), "a"), ())


class Flows(unittest.TestCase):
    def test_for_each_deed_and_each_cell_that_it_reads(self):
        self.assertEqual(flows(ROW), (
            (0, "h", None), (1, "a", 0), (2, "b", 1), (3, "b", 1), (3, "g", None), (5, "f", None)))

    def test_the_last_one_ahead(self):
        row = (deed("w", "a"), deed("x", "a"), deed("y", "b", "a"), deed("z", "a"))
        self.assertEqual(flows(row), ((2, "a", 1),))

    def test_the_first_deed_as_a_writer(self):
        self.assertEqual(flows((deed("x", "a"), deed("y", "b", "a"))), ((1, "a", 0),))

    def test_a_deed_that_reads_its_own_cell(self):
        row = (deed("x", "a", "a"), deed("y", "a", "a"))
        self.assertEqual(flows(row), ((0, "a", None), (1, "a", 0)))

    def test_a_writer_behind_does_not_count(self):
        self.assertEqual(flows((deed("x", "b", "a"), deed("y", "a"))), ((0, "a", None),))

    def test_cells_of_several_parts_once_each_and_rising(self):
        row = (deed("w", "a"), ("x", 1, (("b", (0, (("a", 1), ("h", 1)))), ("c", (0, (("a", 2), ("d", 1)))))))
        self.assertEqual(flows(row), ((1, "a", 0), (1, "d", None), (1, "h", None)))

    def test_none(self):
        self.assertEqual(flows(()), ())
        self.assertEqual(flows((deed("x", "a"), deed("y", "b"))), ())


class AgainstTheWords(unittest.TestCase):
    def test_needed_and_sources(self):
        dice = dice_of(51)
        for row in some_rows(52, 150):
            before = copy.deepcopy(row)
            for many in (0, 1, 1, 2, 3, 8):
                cells = "".join(dice.choice(CELLS) for _ in range(many)) if many < 8 else CELLS
                numbers, ahead = hung_by_the_words(row, cells)
                for _ in range(2):
                    self.assertEqual(needed(row, cells), numbers)
                    self.assertEqual(sources(row, cells), ahead)
            self.assertEqual(row, before)

    def test_flows(self):
        for row in some_rows(53, 100):
            told = tuple((number, cell, last_ahead(row, cell, number))
                         for number in range(len(row)) for cell in sorted(read(row[number])))
            for _ in range(2):
                self.assertEqual(flows(row), told)

    def test_a_deed_in_vain_left_out_changes_no_store(self):
        dice = dice_of(54)
        left_out = 0
        for row in some_rows(55, 150):
            numbers = hung_by_the_words(row, CELLS)[0]
            vain = tuple(number for number in range(len(row)) if number not in numbers)
            self.assertEqual(in_vain(row), vain)
            self.assertEqual(slim(row), tuple(row[number] for number in numbers))
            self.assertEqual(slim(slim(row)), slim(row))
            self.assertEqual(map_of(slim(row)), map_of(row))
            store = some_store(dice)
            self.assertEqual(run(store, slim(row)), run(store, row))
            for number in vain:
                left_out += 1
                self.assertEqual(run(store, row[:number] + row[number + 1:]), run(store, row))
        self.assertGreater(left_out, 50)

    def test_the_needed_deeds_and_the_sources_alone_decide(self):
        dice = dice_of(56)
        for row in some_rows(57, 150):
            cells = "".join(dice.sample(CELLS, dice.randint(1, 3)))
            told = sources(row, cells)
            one, other = some_store(dice), some_store(dice)
            # The same worths at the sources, other ones elsewhere.
            other = tuple(sorted([pair for pair in other if pair[0] not in told]
                                 + [pair for pair in one if pair[0] in told]))
            short = tuple(row[number] for number in needed(row, cells))
            for cell in cells:
                worth = worth_at(run(one, row), cell)
                self.assertEqual(worth_at(run(other, row), cell), worth)
                self.assertEqual(worth_at(run(one, short), cell), worth)


if __name__ == "__main__":
    unittest.main()
