"""[1.1] and [1.2] over [0.3], [0.4] and [0.5]: deeds, rows, and the cells that they read and write."""

import unittest

from sidedeeds.deeds import cells_of, is_deed, is_row, number_of, readers, reads, writers, writes
from sidedeeds.errors import BadRounds, NoDeed, SideError
from things import CELLS, AskedOfAnyThing, dice_of, some_deed, some_row

SET = ("set", 1, (("a", (5, ())),))
ADD = ("add", 2, (("b", (0, (("a", 1), ("c", 2)))),))
SWAP = ("swap", 9, (("a", (0, (("b", 1),))), ("b", (0, (("a", 1),)))))
WIDE = ("w", 3, (("d", (1, (("h", 1),))), ("e", (0, (("c", 1), ("h", -1)))), ("f", (0, ())), ("g", (2, (("b", 9),)))))
ROW = (SET, ADD, SWAP, WIDE)


def deed_of(name="x", ticks=1, parts=(("a", (0, ())),)):
    return name, ticks, parts


def parts_of(cells):
    return tuple((cell, (0, ())) for cell in cells)


class IsDeed(AskedOfAnyThing, unittest.TestCase):
    asked = staticmethod(is_deed)
    good = WIDE

    def test_plain_deeds(self):
        for deed in ROW:
            self.yes(deed)
        dice = dice_of(3)
        for _ in range(300):
            self.yes(some_deed(dice, "abcd"))

    def test_names(self):
        for name in ("a", "z", "ab", "abc", "abcd", "zzzz", "aaaa"):
            self.yes(deed_of(name=name))
        for name in ("", "abcde", "A", "aB", "Zed", "a1", "1", "a b", " a", "a ", "`", "{", "a_", "\u00e4", "a\n", "\n"):
            self.no(deed_of(name=name))

    def test_names_of_other_kinds(self):
        for name in (None, 1, True, ("a",), ["a"], (), []):
            self.no(deed_of(name=name))

    def test_ticks(self):
        for ticks in range(1, 10):
            self.yes(deed_of(ticks=ticks))
        for ticks in (0, 10, -1, -9, 11, 10 ** 30, True, False, None, "1", (1,), [1]):
            self.no(deed_of(ticks=ticks))

    def test_how_many_parts(self):
        for cells in ("a", "h", "ab", "abc", "abcd", "efgh", "bdfh"):
            self.yes(deed_of(parts=parts_of(cells)))
        for cells in ("", "abcde", "abcdefgh"):
            self.no(deed_of(parts=parts_of(cells)))

    def test_cells_of_parts_rise(self):
        for cells in ("ba", "aa", "acb", "abb", "aba", "abdc", "dcba", "ha"):
            self.no(deed_of(parts=parts_of(cells)))

    def test_cells_of_parts(self):
        for cell in CELLS:
            self.yes(deed_of(parts=((cell, (0, ())),)))
        for cell in ("i", "`", "A", "", "ab", " ", None, 1, True, ("a",)):
            self.no(deed_of(parts=((cell, (0, ())),)))

    def test_forms_of_parts(self):
        self.yes(deed_of(parts=(("a", (99, (("a", -9),))),)))
        for form in ((100, ()), (0, (("a", 10),)), (0, (("a", 0),)), (0,), (), 0, None, [0, ()], (True, ()),
                     (0, (("a", True),)), (0, []), (0, (["a", 1],)), (0, (("b", 1), ("a", 1)))):
            self.no(deed_of(parts=(("a", form),)))
            self.no(deed_of(parts=(("a", (0, ())), ("b", form))))

    def test_too_short_and_too_long(self):
        self.no(())
        self.no(("x", 1))
        self.no(("x",))
        self.no(SET + (1,))
        self.no(SET + ((),))
        self.no(deed_of(parts=(("a",),)))
        self.no(deed_of(parts=(("a", (0, ()), 1),)))
        self.no(deed_of(parts=("a", (0, ()))))
        self.no(deed_of(parts="a"))
        self.no("abc")


class IsRow(AskedOfAnyThing, unittest.TestCase):
    asked = staticmethod(is_row)
    good = ROW

    def test_how_many_deeds(self):
        dice = dice_of(5)
        for many in (0, 1, 2, 9, 10):
            self.yes(some_row(dice, many))
        for many in (11, 12, 30):
            self.no(some_row(dice, many))

    def test_names_that_are_alike(self):
        self.yes(ROW)
        self.no((SET, SET))
        self.no((SET, ("set", 2, ADD[2])))
        self.no((SET, ADD, ("set", 9, SWAP[2])))
        self.no((SET, ADD, ("add", 9, SWAP[2])))
        self.yes((SET, ("sets",) + SET[1:]))

    def test_a_deed_that_is_none(self):
        self.no((deed_of(ticks=0),))
        self.no((SET, deed_of(name="")))
        self.no((deed_of(parts=()), SET))
        self.no((SET, None))
        self.no((SET, ()))
        self.no((SET, (0, ())))
        self.no((None,))
        self.no(("",))
        self.no(((),))

    def test_other_kinds(self):
        for thing in (None, True, False, 0, 1, "", "ab", [], [SET], SET, (0, ())):
            self.no(thing)

    def test_names_that_are_lists_are_no_error(self):
        self.no(((["a"],) + SET[1:], (["a"],) + SET[1:]))
        self.no(([], []))


class ReadsAndWrites(unittest.TestCase):
    def test_reads(self):
        self.assertEqual(reads(SET), ())
        self.assertEqual(reads(ADD), ("a", "c"))
        self.assertEqual(reads(SWAP), ("a", "b"))
        self.assertEqual(reads(WIDE), ("b", "c", "h"))

    def test_writes(self):
        self.assertEqual(writes(SET), ("a",))
        self.assertEqual(writes(ADD), ("b",))
        self.assertEqual(writes(SWAP), ("a", "b"))
        self.assertEqual(writes(WIDE), ("d", "e", "f", "g"))

    def test_reads_rise_and_stand_once(self):
        deed = deed_of(parts=(("a", (0, (("h", 1),))), ("b", (0, (("c", 1), ("h", 2)))), ("c", (0, (("a", 1),)))))
        self.assertEqual(reads(deed), ("a", "c", "h"))

    def test_a_deed_of_more_parts(self):
        deed = deed_of(parts=tuple((cell, (500, ((cell, 70),))) for cell in CELLS))
        self.assertEqual(reads(deed), tuple(CELLS))
        self.assertEqual(writes(deed), tuple(CELLS))


class OfRows(unittest.TestCase):
    def test_cells_of(self):
        self.assertEqual(cells_of(()), ())
        self.assertEqual(cells_of((SET,)), ("a",))
        self.assertEqual(cells_of((ADD,)), ("a", "b", "c"))
        self.assertEqual(cells_of((WIDE, SET)), tuple("abcdefgh"))
        self.assertEqual(cells_of((deed_of(parts=(("h", (0, ())),)), SET)), ("a", "h"))

    def test_number_of(self):
        for number, deed in enumerate(ROW):
            self.assertEqual(number_of(ROW, deed[0]), number)

    def test_number_of_no_deed(self):
        for row, name in (((), "set"), (ROW, "none"), (ROW, ""), (ROW, "se"), (ROW, "sets"), ((ADD, SWAP), "set")):
            with self.subTest(name=name):
                with self.assertRaises(NoDeed) as caught:
                    number_of(row, name)
                self.assertIsInstance(caught.exception, SideError)
                self.assertNotIsInstance(caught.exception, BadRounds)

    def test_writers(self):
        self.assertEqual(writers(ROW, "a"), (0, 2))
        self.assertEqual(writers(ROW, "b"), (1, 2))
        self.assertEqual(writers(ROW, "g"), (3,))
        self.assertEqual(writers(ROW, "c"), ())
        self.assertEqual(writers(ROW, "h"), ())
        self.assertEqual(writers((), "a"), ())

    def test_readers(self):
        self.assertEqual(readers(ROW, "a"), (1, 2))
        self.assertEqual(readers(ROW, "b"), (2, 3))
        self.assertEqual(readers(ROW, "c"), (1, 3))
        self.assertEqual(readers(ROW, "h"), (3,))
        self.assertEqual(readers(ROW, "d"), ())
        self.assertEqual(readers((), "a"), ())

    def test_rows_of_more_deeds_and_of_names_that_are_alike(self):
        row = (ADD, SET) * 8
        self.assertEqual(writers(row, "a"), tuple(range(1, 16, 2)))
        self.assertEqual(readers(row, "a"), tuple(range(0, 16, 2)))
        self.assertEqual(cells_of(row), ("a", "b", "c"))

    def test_against_the_words_of_the_document(self):
        dice = dice_of(7)
        for _ in range(200):
            row = some_row(dice, dice.randrange(11))
            before = repr(row)
            read = [{cell for part in deed[2] for cell, many in part[1][1]} for deed in row]
            write = [{part[0] for part in deed[2]} for deed in row]
            every = set().union(*read, *write)
            for _ in range(2):
                self.assertEqual([reads(deed) for deed in row], [tuple(sorted(cells)) for cells in read])
                self.assertEqual([writes(deed) for deed in row], [tuple(sorted(cells)) for cells in write])
                self.assertEqual(cells_of(row), tuple(sorted(every)))
                for cell in CELLS:
                    self.assertEqual(writers(row, cell), tuple(k for k in range(len(row)) if cell in write[k]))
                    self.assertEqual(readers(row, cell), tuple(k for k in range(len(row)) if cell in read[k]))
            self.assertEqual(repr(row), before)


if __name__ == "__main__":
    unittest.main()
