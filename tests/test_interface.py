import doctest
import inspect
import os
import unittest

import onceswapped
from onceswapped import (
    arrange, forests, judge, live, outcomes, partial, precede, series, session, shares, texts, turns)

CHANGE = ["forest", "before", "after"]
SEEN = ["forest", "before", "seen"]
INTERFACE = {
    forests: {"is_forest": ["thing"], "neighbours": ["forest", "position"], "degrees": ["forest"],
              "trees": ["forest"], "path": ["forest", "start", "end"]},
    arrange: {"is_arrangement": ["n", "thing"], "apply_order": ["forest", "items", "order"],
              "moves": CHANGE, "rings": CHANGE},
    turns: {"is_turns": ["forest", "thing"], "turns_of_order": ["forest", "order"],
            "after_turns": ["forest", "items", "turns"], "order_of_turns": ["forest", "turns"]},
    judge: {"can_be": CHANGE, "reason": CHANGE, "shows": CHANGE + ["thing"], "turns_of": CHANGE},
    precede: {"must_precede": CHANGE, "precedes": CHANGE + ["one", "other"], "first_edges": CHANGE,
              "last_edges": CHANGE, "least_order": CHANGE, "orders_counted": CHANGE,
              "order_fits": CHANGE + ["thing"], "exchanged": CHANGE + ["edge"],
              "left_out": CHANGE + ["edge"]},
    outcomes: {"outcome_count": ["forest"], "outcome": ["forest", "items", "number"],
               "outcome_number": CHANGE},
    shares: {"share": ["forest", "start", "end"], "order_share": ["forest", "start", "end"],
             "share_table": ["forest"]},
    partial: {"demands": SEEN, "fits": SEEN, "fitting_count": SEEN, "conflict": SEEN,
              "shows_conflict": SEEN + ["thing"], "least_fitting": SEEN, "certain": SEEN,
              "share_given": SEEN + ["item", "position"]},
    series: {"series_share": ["forests", "start", "end"], "series_after": ["forests", "before"],
             "series_count": ["forests", "before", "after"], "series_plan": ["forests", "before", "after"]},
    texts: {"write_items": ["items"], "read_items": ["text"], "write_seen": ["seen"], "read_seen": ["text"],
            "write_edges": ["edges"], "read_edges": ["text"], "write_turns": ["turns"], "read_turns": ["text"]},
    session: {"session": ["rows"]},
    live: {"Tracker": ["items"]},
}
METHODS = {"bundle": ["edges"], "swap": ["p", "q"], "see": ["position", "item"], "see_all": ["items"], "undo": [],
           "mark": [], "undo_to": ["mark"], "possible": [], "known": [], "may_hold": ["position"],
           "where": ["item"], "history": [], "__len__": [], "twin": []}


class Interface(unittest.TestCase):
    def test_names_and_arguments(self):
        for module, functions in INTERFACE.items():
            for name, names in functions.items():
                parameters = inspect.signature(getattr(module, name)).parameters.values()
                self.assertEqual([p.name for p in parameters], names)
                for p in parameters:
                    self.assertEqual(p.kind, p.POSITIONAL_OR_KEYWORD)
                    self.assertIs(p.default, p.empty)

    def test_functions_are_defined_in_their_file(self):
        for module, functions in INTERFACE.items():
            for name in functions:
                self.assertEqual(getattr(module, name).__module__, module.__name__)

    def test_methods_are_defined_in_their_class(self):
        for name, names in METHODS.items():
            method = vars(live.Tracker)[name]
            self.assertTrue(inspect.isfunction(method), name)
            self.assertEqual(list(inspect.signature(method).parameters)[1:], names)
        self.assertNotIn("__eq__", vars(live.Tracker))

    def test_the_package_holds_python_files_only(self):
        names = os.listdir(os.path.dirname(onceswapped.__file__))
        others = [name for name in names if not name.endswith(".py") and name != "__pycache__"]
        self.assertEqual(others, [])

    def test_the_examples_of_the_readme(self):
        readme = os.path.join(os.path.dirname(__file__), "..", "README.md")
        failed, tried = doctest.testfile(readme, module_relative=False)
        self.assertEqual(failed, 0)
        self.assertGreater(tried, 0)


if __name__ == "__main__":
    unittest.main()
