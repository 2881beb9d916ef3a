"""[1.1] and [2.1] over [0.3] and [0.5]: stores, and what deeds make of them."""

import copy
import itertools
import unittest

from sidedeeds.errors import BadRounds, Clash, SideError
from sidedeeds.stores import done, done_at_once, is_store, run, trail, worth_at
from things import CELLS, AskedOfAnyThing, dice_of, some_deed, some_light_row, some_row, some_store

STORE = (("a", 2), ("b", -3), ("h", 10))
SET = ("set", 1, (("c", (5, ())),))
ADD = ("add", 2, (("b", (1, (("a", 3), ("h", -1)))),))
SWAP = ("swap", 9, (("a", (0, (("b", 1),))), ("b", (0, (("a", 1),)))))
CLEAR = ("nil", 1, (("a", (0, ())), ("h", (-10, (("h", 1),)))))


def by_the_words(store, deeds):
    """What [0.5] says of deeds that all read this store, with a worth for each of the eight cells."""
    worths = {cell: 0 for cell in CELLS}
    for cell, worth in store:
        worths[cell] = worth
    behind = dict(worths)
    for name, ticks, parts in deeds:
        for cell, (number, terms) in parts:
            behind[cell] = number
            for read, many in terms:
                behind[cell] += many * worths[read]
    return tuple((cell, behind[cell]) for cell in CELLS if behind[cell])


class IsStore(AskedOfAnyThing, unittest.TestCase):
    asked = staticmethod(is_store)
    good = STORE
    wrong = (None, "", "abcde", (0,), [], [1], True, False, 0)

    def test_plain_stores(self):
        self.yes(())
        self.yes((("a", 1),))
        self.yes(STORE)
        self.yes(tuple((cell, -1) for cell in CELLS))
        dice = dice_of(11)
        for _ in range(300):
            self.yes(some_store(dice))

    def test_worths_have_no_bound(self):
        for worth in (1, -1, 99, 100, -100, 10 ** 6, -10 ** 6, 10 ** 300, -10 ** 300):
            self.yes((("a", worth),))
            self.yes((("a", 1), ("b", worth)))

    def test_worths_of_0(self):
        self.no((("a", 0),))
        self.no((("a", 1), ("b", 0)))
        self.no((("a", 0), ("b", 1)))
        self.no(tuple((cell, 0) for cell in CELLS))

    def test_truths_are_no_numbers(self):
        for truth in (True, False):
            self.no(truth)
            self.no((("a", truth),))
            self.no((("a", 1), ("b", truth)))
            self.no(((truth, 1),))
            self.no((truth,))

    def test_worths_of_other_kinds(self):
        for worth in (None, "", "1", "a", (), (1,), [], [1], ("a", 1)):
            self.no((("a", worth),))
            self.no((("a", 1), ("b", worth)))

    def test_cells_a_to_h(self):
        for cell in CELLS:
            self.yes(((cell, 1),))
        for cell in ("`", "i", "z", "A", "H", " ", "0", "\n", "\u00e4", None, 0, 1, ("a",), ["a"], ()):
            self.no(((cell, 1),))

    def test_texts_of_no_sign_and_of_two_signs(self):
        for cell in ("", "ab", "aa", "a ", " a", "gh", "abcdefgh"):
            self.no(((cell, 1),))
            self.no((("a", 1), (cell, 1)))
            self.no(((cell, 1), ("h", 1)))

    def test_cells_rise(self):
        for cells in ("ba", "ha", "acb", "bac", "abdc", "hgfedcba"):
            self.no(tuple((cell, 1) for cell in cells))

    def test_cells_said_twice(self):
        for cells in ("aa", "hh", "aab", "abb", "aba", "bab"):
            self.no(tuple((cell, 1) for cell in cells))
        self.no((("a", 1), ("a", 2)))

    def test_too_short_and_too_long(self):
        self.no((("a",),))
        self.no((("a", 1, 1),))
        self.no((("a", 1), ("b",)))
        self.no((("a", 1), ("b", 1, ())))
        self.no(((),))
        self.no((("a", 1), ()))
        self.no(("a", 1))
        self.no(("a",))
        self.no((1,))

    def test_texts_are_no_tuples(self):
        for thing in ("", "a", "a1", ("a1",), ("ab",), ("a1", "b2")):
            self.no(thing)

    def test_lists_are_no_tuples(self):
        for thing in ([], [("a", 1)], (["a", 1],), [["a", 1]], (("a", 1), ["b", 1]), ([],)):
            self.no(thing)

    def test_other_things(self):
        for thing in (None, 0, 1, -1, (None,), (0, ()), SET, (SET,)):
            self.no(thing)

    def test_eight_deep(self):
        for kind in (tuple, list):
            thing = 0
            for _ in range(8):
                thing = kind([thing])
                self.no(thing)
                self.no((thing,))
                self.no((("a", thing),))
                self.no(((thing, 1),))


class WorthAt(unittest.TestCase):
    def test_cells_that_stand_there(self):
        self.assertEqual([worth_at(STORE, cell) for cell in "abh"], [2, -3, 10])
        self.assertEqual(worth_at((("d", 10 ** 40),), "d"), 10 ** 40)

    def test_0_of_all_other_cells(self):
        self.assertEqual([worth_at(STORE, cell) for cell in "cdefg"], [0] * 5)
        self.assertEqual([worth_at((), cell) for cell in CELLS], [0] * 8)


class Done(unittest.TestCase):
    def test_a_form_of_the_worths_ahead(self):
        self.assertEqual(done(STORE, ADD), (("a", 2), ("b", -3), ("h", 10)))
        self.assertEqual(done((("a", 2),), ADD), (("a", 2), ("b", 7)))
        self.assertEqual(done((("a", 10 ** 30),), ADD), (("a", 10 ** 30), ("b", 3 * 10 ** 30 + 1)))

    def test_two_cells_exchanged(self):
        self.assertEqual(done(STORE, SWAP), (("a", -3), ("b", 2), ("h", 10)))
        self.assertEqual(done((("a", 7),), SWAP), (("b", 7),))
        self.assertEqual(done((("b", 7),), SWAP), (("a", 7),))

    def test_three_cells_moved_on(self):
        deed = ("mov", 1, (("a", (0, (("c", 1),))), ("b", (0, (("a", 1),))), ("c", (0, (("b", 1),)))))
        self.assertEqual(done((("a", 1), ("b", 2), ("c", 3)), deed), (("a", 3), ("b", 1), ("c", 2)))

    def test_a_cell_of_itself(self):
        deed = ("dbl", 1, (("a", (1, (("a", 2),))),))
        self.assertEqual(done(STORE, deed), (("a", 5), ("b", -3), ("h", 10)))
        self.assertEqual(done((), deed), (("a", 1),))

    def test_no_cell_of_worth_0(self):
        self.assertEqual(done(STORE, CLEAR), (("b", -3),))
        self.assertEqual(done((), ("x", 1, (("d", (0, (("a", 5),))),))), ())
        self.assertEqual(done((("a", 1), ("d", 4)), ("x", 1, (("d", (-1, (("a", 1),))),))), (("a", 1),))

    def test_cells_rise(self):
        self.assertEqual(done(STORE, SET), (("a", 2), ("b", -3), ("c", 5), ("h", 10)))
        self.assertEqual(done((("h", 1),), SET), (("c", 5), ("h", 1)))
        self.assertEqual(done((("b", 1),), SET), (("b", 1), ("c", 5)))

    def test_deeds_of_greater_forms_and_more_parts(self):
        deed = ("much", 1, tuple((cell, (1000, (("a", 500),))) for cell in CELLS))
        self.assertEqual(done((("a", 2),), deed), tuple((cell, 2000) for cell in CELLS))
        self.assertEqual(done(STORE, ("no", 1, ())), STORE)


class RunAndTrail(unittest.TestCase):
    ROW = (SET, SWAP, ADD, CLEAR)
    STEPS = (
        STORE,
        (("a", 2), ("b", -3), ("c", 5), ("h", 10)),
        (("a", -3), ("b", 2), ("c", 5), ("h", 10)),
        (("a", -3), ("b", -18), ("c", 5), ("h", 10)),
        (("b", -18), ("c", 5)),
    )

    def test_run(self):
        for many in range(5):
            self.assertEqual(run(STORE, self.ROW[:many]), self.STEPS[many])

    def test_trail(self):
        for many in range(5):
            self.assertEqual(trail(STORE, self.ROW[:many]), self.STEPS[:many + 1])

    def test_no_deeds(self):
        self.assertEqual(run((), ()), ())
        self.assertEqual(run(STORE, ()), STORE)
        self.assertEqual(trail((), ()), ((),))
        self.assertEqual(trail(STORE, ()), (STORE,))

    def test_the_order_counts(self):
        self.assertNotEqual(run(STORE, (SWAP, ADD)), run(STORE, (ADD, SWAP)))

    def test_names_that_are_alike_and_more_deeds(self):
        row = (SWAP,) * 15
        self.assertEqual(run(STORE, row), done(STORE, SWAP))
        self.assertEqual(len(trail(STORE, row)), 16)


class DoneAtOnce(unittest.TestCase):
    def test_all_read_the_store_as_it_was(self):
        one = ("one", 1, (("a", (0, (("b", 1),))),))
        other = ("othe", 1, (("b", (0, (("a", 1),))),))
        for deeds in ((one, other), (other, one)):
            self.assertEqual(done_at_once(STORE, deeds), (("a", -3), ("b", 2), ("h", 10)))
        self.assertNotEqual(run(STORE, (one, other)), done_at_once(STORE, (one, other)))

    def test_no_deeds(self):
        self.assertEqual(done_at_once((), ()), ())
        self.assertEqual(done_at_once(STORE, ()), STORE)

    def test_one_deed(self):
        for deed in (SET, ADD, SWAP, CLEAR):
            self.assertEqual(done_at_once(STORE, (deed,)), done(STORE, deed))

    def test_no_cell_of_worth_0_and_cells_rising(self):
        self.assertEqual(done_at_once(STORE, (CLEAR, SET)), (("b", -3), ("c", 5)))
        self.assertEqual(done_at_once(STORE, (SET, CLEAR)), (("b", -3), ("c", 5)))

    def test_clash_if_two_write_one_cell(self):
        third = ("thir", 1, (("d", (0, ())), ("h", (0, (("h", 1),)))))
        for deeds in ((ADD, SWAP), (SWAP, ADD), (SWAP, SET, CLEAR), (SET, SET), (SET, third, ADD, CLEAR)):
            with self.subTest(deeds=deeds):
                with self.assertRaises(Clash) as caught:
                    done_at_once(STORE, deeds)
                self.assertIsInstance(caught.exception, SideError)
                self.assertNotIsInstance(caught.exception, BadRounds)

    def test_clash_even_if_both_write_the_same_worth(self):
        with self.assertRaises(Clash):
            done_at_once((), (SET, ("also", 3, SET[2])))

    def test_no_clash_if_one_reads_what_another_writes(self):
        self.assertEqual(done_at_once(STORE, (ADD, CLEAR)), (("b", -3),))
        self.assertEqual(done_at_once((("a", 2),), (ADD, CLEAR)), (("b", 7), ("h", -10)))

    def test_names_that_are_alike(self):
        self.assertEqual(done_at_once((), (("x",) + SET[1:], ("x", 1, (("d", (6, ())),)))), (("c", 5), ("d", 6)))


class AgainstTheWords(unittest.TestCase):
    def test_done_run_and_trail(self):
        dice = dice_of(12)
        for _ in range(300):
            store, row = some_store(dice), some_row(dice, dice.randrange(11))
            before = copy.deepcopy((store, row))
            steps = [store]
            for deed in row:
                steps.append(by_the_words(steps[-1], (deed,)))
                self.assertEqual(done(steps[-2], deed), steps[-1])
                self.assertIs(is_store(steps[-1]), True)
            for _ in range(2):
                self.assertEqual(run(store, row), steps[-1])
                self.assertEqual(trail(store, row), tuple(steps))
            self.assertEqual(len(trail(store, row)), len(row) + 1)
            self.assertEqual((store, row), before)

    def test_worth_at(self):
        dice = dice_of(13)
        for _ in range(100):
            store = done(some_store(dice), some_deed(dice, "x"))
            self.assertEqual(tuple((cell, worth_at(store, cell)) for cell in CELLS if worth_at(store, cell)), store)

    def test_done_at_once(self):
        dice = dice_of(14)
        clashed = 0
        for _ in range(400):
            store, deeds = some_store(dice), some_light_row(dice, dice.randrange(6))
            written = [{cell for cell, form in deed[2]} for deed in deeds]
            if any(one & other for one, other in itertools.combinations(written, 2)):
                clashed += 1
                with self.assertRaises(Clash):
                    done_at_once(store, deeds)
            else:
                for _ in range(2):
                    self.assertEqual(done_at_once(store, deeds), by_the_words(store, deeds))
        self.assertTrue(50 < clashed < 350, clashed)


if __name__ == "__main__":
    unittest.main()
