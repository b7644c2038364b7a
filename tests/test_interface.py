"""The interface: its names, where they are defined, and their arguments."""

import inspect
import unittest

from holepairs import errors, holes, keeping, pieces, reckoning, shapes, texts, turning

FUNCTIONS = [(pieces, "is_piece", ["thing"]), (pieces, "sides", ["piece"]),
             (pieces, "added", ["one", "other"]), (shapes, "exchanged", ["shape", "number"]),
             (reckoning, "reduced", ["shape"]), (reckoning, "pairs", ["shape"]),
             (reckoning, "pairs_from_behind", ["shape"]), (holes, "bars", ["shape"]),
             (holes, "open_at", ["shape", "time"]), (holes, "counts", ["shape", "time"]),
             (holes, "shown", ["shape", "maker"]), (turning, "turn_word", ["shape", "number"]),
             (texts, "written", ["shape"]), (texts, "read", ["text"])]

KEEPER_METHODS = {"__init__": [], "put": ["piece"], "cut": [], "shape": [], "pairs_now": [],
                  "counts_now": []}

METHODS = {"__init__": ["pieces"], "put": ["piece"], "cut": [], "many": [], "pieces": [],
           "piece": ["number"], "size": ["number"], "sides_of": ["number"],
           "uppers_of": ["number"], "border": ["numbers"]}

FIELDS = {"BadPiece": ["at"], "Twice": ["at"], "Lacking": ["at", "side"], "BadText": ["line"]}


class InterfaceTest(unittest.TestCase):

    def test_functions(self):
        for module, name, arguments in FUNCTIONS:
            function = getattr(module, name)
            self.assertTrue(inspect.isfunction(function))
            self.assertEqual(function.__module__, module.__name__)
            self.assertEqual(list(inspect.signature(function).parameters), arguments)

    def check_methods(self, kind, methods):
        for name, arguments in methods.items():
            method = vars(kind)[name]
            self.assertEqual(list(inspect.signature(method).parameters), ["self"] + arguments)

    def test_methods_of_a_shape(self):
        self.assertEqual(shapes.Shape.__module__, "holepairs.shapes")
        self.check_methods(shapes.Shape, METHODS)

    def test_methods_of_a_keeper(self):
        self.assertEqual(keeping.Keeper.__module__, "holepairs.keeping")
        self.check_methods(keeping.Keeper, KEEPER_METHODS)

    def test_a_shape_needs_no_argument(self):
        parameter = inspect.signature(shapes.Shape).parameters["pieces"]
        self.assertIsNone(parameter.default)

    def test_arguments_of_the_refusals(self):
        for name, arguments in FIELDS.items():
            kind = getattr(errors, name)
            self.assertEqual(list(inspect.signature(kind).parameters), arguments)


if __name__ == "__main__":
    unittest.main()
