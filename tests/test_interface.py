"""The interface section of the document: its names and arguments."""

import importlib
import inspect
import unittest

INTERFACE = {
    "forms": {"is_form": 1, "plus": 2, "times": 2, "put_in": 2, "worth_of": 2},
    "deeds": {"is_deed": 1, "is_row": 1, "reads": 1, "writes": 1, "cells_of": 1, "number_of": 2, "writers": 2,
              "readers": 2},
    "stores": {"is_store": 1, "worth_at": 2, "done": 2, "run": 2, "trail": 2, "done_at_once": 2},
    "ties": {"are_tied": 2, "ties": 1, "ahead": 2, "behind": 2, "bare_ties": 1, "longest_chain": 1},
    "rounds": {"rounds": 1, "late_rounds": 1, "fixed": 1, "why_not": 2, "run_rounds": 3, "narrow": 2, "widest": 1,
               "are_rounds": 2},
    "orders": {"normal": 1, "swapped": 2, "swaps": 2, "orders_many": 1, "least_row": 1, "are_same": 2},
    "maps": {"map_of": 1, "parting_store": 2, "loose_ties": 1, "joined": 3, "are_alike": 2, "commute": 2,
             "is_idle": 1},
    "needs": {"needed": 2, "in_vain": 1, "slim": 1, "sources": 2, "flows": 1},
    "times": {"earliest": 1, "least_time": 1, "latest": 1, "tight": 1, "planned": 3, "in_turn": 2, "ends_at": 2,
              "why_bad": 3, "best_time": 2},
    "merging": {"clashes": 2, "merged": 2, "renamed": 2, "mixed": 3},
    "texts": {"written_out": 1, "read_in": 1},
}
# The methods of the class sidedeeds.runners.Runner, which is made of one store.
RUNNER = {"begin": 1, "end": 1, "drop": 1, "undo": 0, "store": 0, "going_on": 0, "log": 0, "locked": 0}


class Interface(unittest.TestCase):
    def test_names_and_arguments(self):
        for module, functions in INTERFACE.items():
            held = importlib.import_module("sidedeeds." + module)
            for name, many in functions.items():
                with self.subTest(module=module, name=name):
                    function = getattr(held, name)
                    self.assertEqual(function.__module__, "sidedeeds." + module)
                    inspect.signature(function).bind(*range(many))
                    self.assertEqual(len(inspect.signature(function).parameters), many)

    def test_the_class_runner_has_each_method_itself(self):
        held = importlib.import_module("sidedeeds.runners").Runner
        inspect.signature(held).bind(())
        self.assertEqual(len(inspect.signature(held).parameters), 1)
        for name, many in RUNNER.items():
            with self.subTest(name=name):
                self.assertIn(name, vars(held))
                self.assertEqual(len(inspect.signature(getattr(held(()), name)).parameters), many)


if __name__ == "__main__":
    unittest.main()
