"""[10.1] over [0.2] (g), [0.3] and [0.5]: runners, their locks and their steps."""

import unittest

from sidedeeds.errors import Locked, NameTaken, NoDeed, SideError
from sidedeeds.runners import Runner
from sidedeeds.stores import done, is_store, run
from things import deed, dice_of, some_light_row, some_store, tied_by_the_words

P, Q, R = deed("p", "a"), deed("q", "b"), deed("r", "c", "h")
ADD = ("add", 2, (("a", (0, (("a", 1), ("b", 1)))),))
SWAP = ("swap", 1, (("a", (0, (("b", 1),))), ("b", (0, (("a", 1),)))))
STORE = (("a", 2), ("b", -3), ("h", 10))


def told_by(runner):
    return runner.store(), runner.going_on(), runner.log(), runner.locked()


class ByTheWords:
    """A runner that keeps all steps and does them anew for each question."""

    def __init__(self, store):
        self.first = store
        self.steps = []

    def now(self):
        """The store, the open deeds with the store that each one read, and the log."""
        store, going_on, log = self.first, [], []
        for step, told in self.steps:
            if step == "begin":
                going_on.append((told, store))
                continue
            began, read = next(pair for pair in going_on if pair[0][0] == told)
            going_on.remove((began, read))
            if step == "end":
                worths = dict(store)
                worths.update({cell: dict(done(read, began)).get(cell, 0) for cell, form in began[2]})
                store = tuple(sorted((cell, worth) for cell, worth in worths.items() if worth))
                log.append(began)
        return store, going_on, log

    def refusal(self, step, told):
        store, going_on, log = self.now()
        if step == "undo":
            return None if self.steps else NoDeed
        if step == "begin":
            if told[0] in [began[0] for began, read in going_on] + [ended[0] for ended in log]:
                return NameTaken
            return Locked if any(tied_by_the_words(told, began) for began, read in going_on) else None
        return None if told in [began[0] for began, read in going_on] else NoDeed

    def do(self, step, told):
        if step == "undo":
            self.steps.pop()
        else:
            self.steps.append((step, told))

    def told(self):
        store, going_on, log = self.now()
        wrote = {cell for began, read in going_on for cell, form in began[2]}
        read = {cell for began, ahead in going_on for part, form in began[2] for cell, many in form[1]}
        names = tuple(began[0] for began, ahead in going_on)
        return store, names, tuple(log), (tuple(sorted(wrote)), tuple(sorted(wrote | read)))


class RunnerCase(unittest.TestCase):
    def made(self, *deeds):
        """A runner over STORE in which these have begun."""
        runner = Runner(STORE)
        for each in deeds:
            self.assertIsNone(runner.begin(each))
        return runner

    def refused(self, runner, error, step, *arguments):
        """The step is refused, changes nothing, and is no step to take back."""
        before = told_by(runner)
        with self.assertRaises(error) as caught:
            getattr(runner, step)(*arguments)
        self.assertIsInstance(caught.exception, SideError)
        self.assertEqual(told_by(runner), before)


class ANewRunner(RunnerCase):
    def test_nothing_is_open(self):
        self.assertEqual(told_by(Runner(STORE)), (STORE, (), (), ((), ())))
        self.assertEqual(told_by(Runner(())), ((), (), (), ((), ())))

    def test_runners_do_not_share_anything(self):
        one, other = Runner(STORE), Runner(STORE)
        one.begin(P)
        self.assertEqual(other.going_on(), ())
        other.begin(P)
        one.end("p")
        self.assertEqual(other.store(), STORE)
        self.assertEqual(other.log(), ())


class Begin(RunnerCase):
    def test_it_is_open_and_writes_nothing_yet(self):
        runner = self.made(P)
        self.assertEqual(told_by(runner), (STORE, ("p",), (), (("a",), ("a",))))

    def test_several_that_are_not_tied(self):
        runner = self.made(R, P, Q)
        self.assertEqual(runner.going_on(), ("r", "p", "q"))

    def test_two_that_read_one_cell(self):
        self.assertEqual(self.made(R, deed("s", "d", "h")).going_on(), ("r", "s"))

    def test_name_taken_if_it_is_open(self):
        runner = self.made(P, Q)
        for name in ("p", "q"):
            self.refused(runner, NameTaken, "begin", deed(name, "h"))
        self.refused(runner, NameTaken, "begin", P)

    def test_name_taken_if_it_has_ended(self):
        runner = self.made(P)
        runner.end("p")
        self.refused(runner, NameTaken, "begin", P)
        self.refused(runner, NameTaken, "begin", deed("p", "h"))

    def test_locked_if_it_is_tied_to_an_open_one(self):
        runner = self.made(R, P)
        # It writes what an open one writes, or reads, or reads what an open one writes.
        for wrong in (deed("x", "c"), deed("x", "h"), deed("x", "d", "a"), deed("x", "dh"), deed("x", "d", "ac")):
            self.refused(runner, Locked, "begin", wrong)

    def test_not_locked_by_what_has_ended_or_was_dropped(self):
        runner = self.made(P, Q)
        runner.end("p")
        runner.drop("q")
        runner.begin(SWAP)
        self.assertEqual(runner.going_on(), ("swap",))

    def test_name_taken_ahead_of_locked(self):
        runner = self.made(P)
        self.refused(runner, NameTaken, "begin", deed("p", "a"))
        runner.begin(Q)
        runner.end("q")
        self.refused(runner, NameTaken, "begin", deed("q", "a"))

    def test_a_dropped_name_can_begin_again(self):
        runner = self.made(P)
        runner.drop("p")
        runner.begin(deed("p", "h"))
        self.assertEqual(runner.going_on(), ("p",))


class End(RunnerCase):
    def test_it_writes_and_has_ended(self):
        runner = self.made(SWAP)
        self.assertIsNone(runner.end("swap"))
        self.assertEqual(told_by(runner), ((("a", -3), ("b", 2), ("h", 10)), (), (SWAP,), ((), ())))

    def test_a_worth_of_0(self):
        runner = Runner((("a", 2),))
        runner.begin(("zero", 1, (("a", (0, ())),)))
        runner.end("zero")
        self.assertEqual(runner.store(), ())

    def test_in_another_order_than_they_began(self):
        runner = self.made(P, Q, R)
        runner.end("q")
        self.assertEqual(runner.going_on(), ("p", "r"))
        runner.end("r")
        runner.end("p")
        self.assertEqual(runner.log(), (Q, R, P))
        self.assertEqual(runner.store(), run(STORE, (Q, R, P)))

    def test_what_its_forms_were_worth_when_it_began(self):
        # Others that are not tied to it end meanwhile.
        runner = self.made(ADD)
        runner.begin(R)
        runner.end("r")
        runner.end("add")
        self.assertEqual(runner.store(), (("a", -1), ("b", -3), ("c", 11), ("h", 10)))

    def test_no_deed(self):
        runner = self.made(P, Q)
        runner.end("p")
        runner.drop("q")
        for name in ("p", "q", "r", ""):
            self.refused(runner, NoDeed, "end", name)
        self.refused(Runner(()), NoDeed, "end", "p")


class Drop(RunnerCase):
    def test_it_is_open_no_more_and_writes_nothing(self):
        runner = self.made(P, Q, R)
        self.assertIsNone(runner.drop("q"))
        self.assertEqual(told_by(runner), (STORE, ("p", "r"), (), (("a", "c"), ("a", "c", "h"))))

    def test_no_deed(self):
        runner = self.made(P, Q)
        runner.end("p")
        runner.drop("q")
        for name in ("p", "q", "r", ""):
            self.refused(runner, NoDeed, "drop", name)
        self.refused(Runner(()), NoDeed, "drop", "p")


class Undo(RunnerCase):
    def test_a_begin(self):
        runner = self.made(P, Q)
        self.assertIsNone(runner.undo())
        self.assertEqual(told_by(runner), told_by(self.made(P)))
        runner.begin(Q)
        self.assertEqual(runner.going_on(), ("p", "q"))

    def test_an_end(self):
        runner = self.made(P, Q)
        runner.end("p")
        runner.undo()
        self.assertEqual(told_by(runner), told_by(self.made(P, Q)))
        # It is open: it can end again, and its name can not begin.
        self.refused(runner, NameTaken, "begin", deed("p", "h"))
        runner.end("p")
        self.assertEqual(runner.log(), (P,))
        self.assertEqual(runner.store(), done(STORE, P))

    def test_an_end_writes_the_same_when_done_again(self):
        runner = self.made(ADD)
        runner.end("add")
        runner.undo()
        runner.end("add")
        self.assertEqual(runner.store(), done(STORE, ADD))

    def test_a_drop(self):
        runner = self.made(P, Q)
        runner.drop("p")
        runner.undo()
        self.assertEqual(told_by(runner), told_by(self.made(P, Q)))
        runner.end("p")
        self.assertEqual(runner.store(), done(STORE, P))

    def test_going_on_is_as_they_began_behind_an_undo(self):
        for step in ("end", "drop"):
            for name in ("p", "q", "r"):
                runner = self.made(P, Q, R)
                getattr(runner, step)(name)
                runner.undo()
                self.assertEqual(runner.going_on(), ("p", "q", "r"))

    def test_several(self):
        runner = self.made(P, Q)
        states = [told_by(Runner(STORE)), told_by(self.made(P)), told_by(runner)]
        for step, given in (("end", "p"), ("begin", R), ("drop", "q"), ("end", "r"), ("begin", SWAP), ("end", "swap")):
            getattr(runner, step)(given)
            states.append(told_by(runner))
        for state in states[-2::-1]:
            runner.undo()
            self.assertEqual(told_by(runner), state)
        self.refused(runner, NoDeed, "undo")

    def test_one_too_many(self):
        runner = Runner(STORE)
        self.refused(runner, NoDeed, "undo")
        runner.begin(P)
        runner.undo()
        self.refused(runner, NoDeed, "undo")
        self.refused(runner, NoDeed, "undo")
        runner.begin(P)
        self.assertEqual(runner.going_on(), ("p",))

    def test_an_undo_is_no_step_to_take_back(self):
        runner = self.made(P, Q)
        runner.undo()
        runner.undo()
        self.assertEqual(told_by(runner), told_by(Runner(STORE)))

    def test_steps_go_on_behind_an_undo(self):
        runner = self.made(P, Q)
        runner.undo()
        runner.begin(R)
        runner.undo()
        self.assertEqual(runner.going_on(), ("p",))
        runner.undo()
        self.assertEqual(runner.going_on(), ())

    def test_what_was_refused_is_no_step_to_take_back(self):
        runner = self.made(P)
        self.refused(runner, NameTaken, "begin", P)
        self.refused(runner, Locked, "begin", ADD)
        self.refused(runner, NoDeed, "end", "x")
        self.refused(runner, NoDeed, "drop", "x")
        runner.undo()
        self.assertEqual(told_by(runner), told_by(Runner(STORE)))
        self.refused(runner, NoDeed, "undo")

    def test_a_name_whose_begin_was_taken_back_can_begin_again(self):
        runner = self.made(P)
        runner.end("p")
        runner.undo()
        runner.undo()
        runner.begin(deed("p", "h"))
        runner.end("p")
        self.assertEqual(runner.log(), (deed("p", "h"),))
        self.assertEqual(runner.store(), done(STORE, deed("p", "h")))

    def test_locks_are_taken_back_too(self):
        runner = self.made(P)
        runner.end("p")
        runner.begin(ADD)
        runner.undo()
        runner.undo()
        self.refused(runner, Locked, "begin", ADD)
        runner.undo()
        runner.begin(ADD)
        self.refused(runner, Locked, "begin", P)


class Told(RunnerCase):
    def test_log_as_they_ended(self):
        runner = self.made(P, Q)
        runner.end("q")
        runner.begin(R)
        runner.drop("p")
        runner.end("r")
        self.assertEqual(runner.log(), (Q, R))

    def test_locked(self):
        runner = self.made(deed("x", "ch", "d"), deed("y", "a", "bd"))
        self.assertEqual(runner.locked(), (("a", "c", "h"), ("a", "b", "c", "d", "h")))
        runner.end("x")
        self.assertEqual(runner.locked(), (("a",), ("a", "b", "d")))
        runner.drop("y")
        self.assertEqual(runner.locked(), ((), ()))

    def test_a_deed_that_reads_its_own_cell(self):
        self.assertEqual(self.made(deed("x", "a", "a")).locked(), (("a",), ("a",)))

    def test_asked_again_the_same(self):
        runner = self.made(P, Q)
        runner.end("p")
        self.assertEqual(told_by(runner), told_by(runner))

    def test_what_was_told_is_not_changed_by_later_steps(self):
        runner = self.made(P)
        store, going_on, log, locked = told_by(runner)
        runner.end("p")
        runner.begin(Q)
        self.assertEqual((store, going_on, log, locked), (STORE, ("p",), (), (("a",), ("a",))))

    def test_kinds(self):
        runner = self.made(P)
        for told in (*told_by(runner), *runner.locked()):
            self.assertIs(type(told), tuple)


class AgainstTheWords(unittest.TestCase):
    def test_many_steps(self):
        dice = dice_of(91)
        counts = {}
        for _ in range(60):
            first = some_store(dice)
            deeds = some_light_row(dice, 6) + tuple(deed(name, cell) for name, cell in zip(("laa", "zz"), "ah"))
            runner, words = Runner(first), ByTheWords(first)
            for _ in range(40):
                step = dice.choice(("begin", "begin", "begin", "end", "end", "drop", "undo"))
                each = dice.choice(deeds)
                open_names = words.told()[1]
                if step != "begin" and open_names and dice.random() < 0.7:
                    each = (dice.choice(open_names),)
                given = each if step == "begin" else each[0]
                refusal = words.refusal(step, given)
                counts[step, refusal] = counts.get((step, refusal), 0) + 1
                arguments = () if step == "undo" else (given,)
                if refusal is None:
                    words.do(step, given)
                    self.assertIsNone(getattr(runner, step)(*arguments))
                else:
                    with self.assertRaises(refusal):
                        getattr(runner, step)(*arguments)
                for _ in range(2):
                    self.assertEqual(told_by(runner), words.told())
                self.assertIs(is_store(runner.store()), True)
                self.assertEqual(runner.store(), run(first, runner.log()))
        self.assertEqual(len(counts), 9, counts)
        self.assertGreater(min(counts.values()), 5, counts)


if __name__ == "__main__":
    unittest.main()
