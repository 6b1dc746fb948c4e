"""The names and arguments that the document's interface tells."""

import importlib
import inspect
import unittest

FUNCTIONS = {
    "piles": {"laid": "columns rows", "folded": "pile side over crease", "undone": "pile"},
    "joints": {"joints": "pile", "cut": "pile level number", "pieces": "pile"},
    "lying": {"fault": "columns rows wide high heaps"},
    "books": {"pages": "pile spine prints", "plan": "pile spine", "held": "pile spine", "bolts": "pile spine",
              "sewn": "pile spine prints"},
    "words": {"shown": "folds", "read": "text"},
}


class Interface(unittest.TestCase):
    def test_functions_and_their_arguments(self):
        for module, functions in FUNCTIONS.items():
            loaded = importlib.import_module("leaffold." + module)
            for name, arguments in functions.items():
                with self.subTest(module=module, name=name):
                    found = inspect.signature(getattr(loaded, name)).parameters
                    self.assertEqual(list(found), arguments.split())
                    for argument in found.values():
                        self.assertIs(argument.default, inspect.Parameter.empty)

    def test_piles(self):
        piles = importlib.import_module("leaffold.piles")
        self.assertEqual(list(inspect.signature(piles.Pile.heap).parameters), ["self", "x", "y"])
        self.assertEqual(list(inspect.signature(piles.Pile.done).parameters), ["self"])
        pile = piles.laid(columns=3, rows=2)
        self.assertEqual((pile.columns, pile.rows, pile.wide, pile.high), (3, 2, 3, 2))
        self.assertEqual(pile.heap(x=2, y=1), [(5, False, False)])


if __name__ == "__main__":
    unittest.main()
