"""The interface: every name that the document lists is there, and stands where it says."""

import importlib
import inspect
import unittest

FUNCTIONS = {
    "nets": {"renumbered": 2}, "nettexts": {"show_net": 1, "read_net": 1},
    "rings": {"ring_left": 2, "rings_apart": 1}, "turning": {"against": 2, "fewest_turned": 1, "near_turned": 1},
    "rows": {"is_down": 3, "fewest_rows": 2}, "widths": {"rows_within": 3}, "lengths": {"shortest_rows": 2},
    "sheets": {"first_order": 1}, "crossings": {"crossings": 2, "crossing_pairs": 2, "sum_of": 4},
    "best": {"best_row": 3}, "exchanges": {"exchanged": 2}, "sweeps": {"swept": 3},
    "places": {"is_kept": 4, "least_places": 4, "most_straight": 3},
    "drawingtexts": {"show_drawing": 1, "read_drawing": 1}, "changes": {"put_in": 4, "taken_out": 2},
    "drawn": {"drawn": 2},
}
CLASSES = {
    ("nets", "Net", 2): {"names": 0, "arrows": 0, "many": 0, "going": 1, "coming": 1},
    ("sheets", "Sheet", 3): {
        "net": 0, "turned": 0, "rows": 0, "many_rows": 0, "many_nodes": 0, "row_of": 1, "nodes_in": 1, "pieces": 0,
        "way": 1, "arrow_of": 1,
    },
    ("drawings", "Drawing", 4): {"sheet": 0, "order": 0, "places": 0, "gap": 0},
}


def module(name):
    return importlib.import_module(f"arrowtiers.{name}")


class Interface(unittest.TestCase):
    def test_functions(self):
        for name, functions in FUNCTIONS.items():
            for function, many in functions.items():
                found = vars(module(name))[function]
                self.assertEqual(found.__module__, f"arrowtiers.{name}")
                self.assertEqual(len(inspect.signature(found).parameters), many, function)

    def test_classes(self):
        for (name, class_name, many), methods in CLASSES.items():
            found = vars(module(name))[class_name]
            self.assertEqual(found.__module__, f"arrowtiers.{name}")
            self.assertEqual(len(inspect.signature(found).parameters), many, class_name)
            for method, arguments in methods.items():
                self.assertEqual(len(inspect.signature(vars(found)[method]).parameters), arguments + 1, method)


if __name__ == "__main__":
    unittest.main()
