"""[1.1] over [0.3] and [0.4]: is_form, plus, times, put_in, worth_of."""

import copy
import unittest

from sidedeeds.forms import is_form, plus, put_in, times, worth_of
from things import AskedOfAnyThing, dice_of, some_form

GOOD = (5, (("a", 2), ("c", -3), ("h", 1)))


class IsForm(AskedOfAnyThing, unittest.TestCase):
    asked = staticmethod(is_form)
    good = GOOD

    def test_plain_forms(self):
        self.yes((0, ()))
        self.yes((7, (("b", 1),)))
        self.yes(GOOD)
        self.yes((0, tuple((cell, 1) for cell in "abcdefgh")))

    def test_number_at_its_bounds(self):
        for number in (-99, -98, -1, 0, 1, 98, 99):
            self.yes((number, ()))
        for number in (-100, 100, -101, 1000, 10 ** 30):
            self.no((number, ()))
            self.no((number, (("a", 1),)))

    def test_times_at_their_bounds(self):
        for many in (-9, -8, -1, 1, 8, 9):
            self.yes((0, (("a", many),)))
            self.yes((0, (("a", 1), ("b", many))))
        for many in (-10, 10, 0, 11, 99, 10 ** 30):
            self.no((0, (("a", many),)))
            self.no((0, (("a", 1), ("b", many))))

    def test_cells_a_to_h(self):
        for cell in "abcdefgh":
            self.yes((0, ((cell, 1),)))
        for cell in ("`", "i", "z", "A", "H", "", "ab", "aa", "abcdefgh", " ", "a ", "0", "\n", "\u00e4"):
            self.no((0, ((cell, 1),)))

    def test_cells_rise(self):
        self.yes((0, (("a", 1), ("h", 1))))
        self.no((0, (("h", 1), ("a", 1))))
        self.no((0, (("a", 1), ("a", 1))))
        self.no((0, (("a", 1), ("a", 2))))
        self.no((0, (("a", 1), ("c", 1), ("b", 1))))
        self.no((0, (("b", 1), ("a", 1), ("c", 1))))
        self.no((0, (("a", 1), ("c", 1), ("c", 1))))
        self.no((0, (("b", 1), ("c", 1), ("b", 1))))

    def test_cells_left_out(self):
        self.no((0, ((1,),)))
        self.no((0, (1,)))
        self.no((0, ((None, 1),)))
        self.no((0, ((),)))

    def test_too_short_and_too_long(self):
        self.no(())
        self.no((0,))
        self.no((0, (), ()))
        self.no((0, (), 0))
        self.no((0, (("a",),)))
        self.no((0, (("a", 1, 1),)))
        self.no((0, (("a", 1), ("b",))))
        self.no((0, ("a", 1)))

    def test_texts_are_no_tuples(self):
        self.no((0, ""))
        self.no((0, "a"))
        self.no((0, ("ab",)))
        self.no("ab")
        self.no("")

    def test_lists_are_no_tuples(self):
        self.no((0, []))
        self.no((0, [("a", 1)]))
        self.no((0, (["a", 1],)))
        self.no([0, ()])

    def test_truths_are_no_numbers(self):
        for truth in (True, False):
            self.no((truth, ()))
            self.no((0, (("a", truth),)))
            self.no((0, (("a", 1), ("b", truth))))
            self.no((0, ((truth, 1),)))
            self.no((0, truth))
            self.no(truth)

    def test_eight_deep(self):
        for kind in (tuple, list):
            thing = 0
            for _ in range(8):
                thing = kind([thing])
                self.no(thing)
                self.no((0, thing))
                self.no((0, (("a", thing),)))
                self.no((thing, ()))


class Plus(unittest.TestCase):
    def test_both_together(self):
        self.assertEqual(plus((1, (("a", 2),)), (3, (("a", 4),))), (4, (("a", 6),)))
        self.assertEqual(plus((1, (("b", 2),)), (3, (("a", 4),))), (4, (("a", 4), ("b", 2))))
        self.assertEqual(plus((0, ()), (0, ())), (0, ()))
        self.assertEqual(plus((0, ()), GOOD), GOOD)
        self.assertEqual(plus(GOOD, (0, ())), GOOD)

    def test_no_terms_of_0_times(self):
        self.assertEqual(plus((1, (("a", 2),)), (-1, (("a", -2),))), (0, ()))
        one = (1, (("a", 2), ("b", 3), ("c", 1)))
        other = (2, (("b", -3), ("d", 5)))
        self.assertEqual(plus(one, other), (3, (("a", 2), ("c", 1), ("d", 5))))

    def test_cells_rise(self):
        one = (0, (("b", 1), ("d", 1), ("h", 1)))
        other = (0, (("a", 1), ("c", 1), ("d", 1), ("g", 1)))
        told = (0, (("a", 1), ("b", 1), ("c", 1), ("d", 2), ("g", 1), ("h", 1)))
        self.assertEqual(plus(one, other), told)
        self.assertEqual(plus(other, one), told)

    def test_beyond_the_bounds(self):
        great = plus((99, (("a", 9),)), (99, (("a", 9),)))
        self.assertEqual(great, (198, (("a", 18),)))
        self.assertIs(is_form(great), False)
        self.assertEqual(plus(great, great), (396, (("a", 36),)))
        self.assertEqual(plus(great, (-198, (("a", -18),))), (0, ()))
        self.assertEqual(plus((-99, ()), (-99, ())), (-198, ()))


class Times(unittest.TestCase):
    def test_so_many_times(self):
        self.assertEqual(times(GOOD, 1), GOOD)
        self.assertEqual(times(GOOD, 2), (10, (("a", 4), ("c", -6), ("h", 2))))
        self.assertEqual(times((0, ()), 5), (0, ()))

    def test_0_times(self):
        self.assertEqual(times(GOOD, 0), (0, ()))
        self.assertEqual(times((99, ()), 0), (0, ()))

    def test_below_0(self):
        self.assertEqual(times(GOOD, -1), (-5, (("a", -2), ("c", 3), ("h", -1))))
        self.assertEqual(times(GOOD, -7), (-35, (("a", -14), ("c", 21), ("h", -7))))

    def test_great(self):
        much = 10 ** 20
        great = times(GOOD, much)
        self.assertEqual(great, (5 * much, (("a", 2 * much), ("c", -3 * much), ("h", much))))
        self.assertIs(is_form(great), False)
        self.assertEqual(times(great, -much), (-5 * much * much, tuple((c, -n * much) for c, n in great[1])))


class PutIn(unittest.TestCase):
    def test_empty_table(self):
        self.assertEqual(put_in(GOOD, {}), GOOD)
        self.assertEqual(put_in((0, ()), {}), (0, ()))
        self.assertEqual(put_in((300, (("b", -40),)), {}), (300, (("b", -40),)))

    def test_some_cells(self):
        form = (1, (("a", 2), ("b", 3)))
        self.assertEqual(put_in(form, {"a": (5, (("c", 1),))}), (11, (("b", 3), ("c", 2))))
        self.assertEqual(put_in(form, {"a": (4, ())}), (9, (("b", 3),)))
        self.assertEqual(put_in(form, {"b": (0, ())}), (1, (("a", 2),)))
        self.assertEqual(put_in(form, {"h": (7, (("a", 1),))}), form)

    def test_cells_of_each_other_all_at_once(self):
        form = (0, (("a", 2), ("b", 3)))
        table = {"a": (0, (("b", 1),)), "b": (0, (("a", 1),))}
        self.assertEqual(put_in(form, table), (0, (("a", 3), ("b", 2))))
        table = {"b": (1, (("c", 1),)), "a": (1, (("b", 1),)), "c": (50, ())}
        self.assertEqual(put_in(form, table), (5, (("b", 2), ("c", 3))))
        self.assertEqual(put_in((0, (("a", 1),)), {"a": (1, (("a", 2),))}), (1, (("a", 2),)))

    def test_no_terms_of_0_times(self):
        form = (1, (("a", 2), ("b", -1)))
        self.assertEqual(put_in(form, {"b": (3, (("a", 2),))}), (-2, ()))
        table = {"a": (0, (("c", 1),)), "b": (0, (("c", 2), ("d", 1)))}
        self.assertEqual(put_in(form, table), (1, (("d", -1),)))

    def test_beyond_the_bounds(self):
        great = put_in((99, (("a", 9),)), {"a": (99, (("a", 9),))})
        self.assertEqual(great, (990, (("a", 81),)))
        self.assertEqual(put_in(great, {"a": great}), (990 + 81 * 990, (("a", 81 * 81),)))

    def test_the_table_is_not_changed(self):
        table = {"b": (1, (("a", 1),)), "a": (2, ())}
        before = list(copy.deepcopy(table).items())
        first = put_in(GOOD, table)
        self.assertEqual(list(table.items()), before)
        self.assertEqual(put_in(GOOD, table), first)


class WorthOf(unittest.TestCase):
    def test_number_and_terms(self):
        self.assertEqual(worth_of((7, ()), {"a": 5}), 7)
        self.assertEqual(worth_of(GOOD, {"a": 10, "c": 100, "h": -1000}), 5 + 20 - 300 - 1000)
        self.assertEqual(worth_of((0, ()), {}), 0)

    def test_0_for_other_cells(self):
        self.assertEqual(worth_of(GOOD, {}), 5)
        self.assertEqual(worth_of(GOOD, {"c": 4}), -7)
        self.assertEqual(worth_of(GOOD, {"b": 1000}), 5)
        self.assertEqual(worth_of(GOOD, {"a": 0}), 5)

    def test_beyond_the_bounds(self):
        much = 10 ** 25
        self.assertEqual(worth_of((1000, (("a", much),)), {"a": much}), 1000 + much * much)

    def test_the_table_is_not_changed(self):
        table = {"c": 3, "a": 1}
        first = worth_of(GOOD, table)
        self.assertEqual(list(table.items()), [("c", 3), ("a", 1)])
        self.assertEqual(worth_of(GOOD, table), first)


class Together(unittest.TestCase):
    """What plus, times and put_in tell is worth what it must be, and is a form but for its bounds."""

    def shape(self, form):
        self.assertIsInstance(form, tuple)
        number, terms = form
        self.assertIsInstance(terms, tuple)
        cells = [cell for cell, many in terms]
        self.assertEqual(cells, sorted(set(cells)))
        for term in terms:
            self.assertIsInstance(term, tuple)
            self.assertNotEqual(term[1], 0)

    def test_worths(self):
        dice = dice_of(2)
        for _ in range(500):
            one, other = some_form(dice, 99, 2), some_form(dice, 300, 2)
            many = dice.choice((-3, -1, 0, 1, 2, 40))
            table = {cell: some_form(dice, 9, 1) for cell in dice.sample("abcdefgh", dice.randrange(9))}
            worths = {cell: dice.randint(-50, 50) for cell in dice.sample("abcdefgh", dice.randrange(9))}
            behind = {cell: worth_of(table.get(cell, (0, ((cell, 1),))), worths) for cell in "abcdefgh"}
            both, much, put = plus(one, other), times(one, many), put_in(one, table)
            for form in (both, much, put):
                self.shape(form)
            self.assertEqual(worth_of(both, worths), worth_of(one, worths) + worth_of(other, worths))
            self.assertEqual(worth_of(much, worths), many * worth_of(one, worths))
            self.assertEqual(worth_of(put, worths), worth_of(one, behind))
            self.assertEqual((plus(one, other), times(one, many), put_in(one, table)), (both, much, put))


if __name__ == "__main__":
    unittest.main()
