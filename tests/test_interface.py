"""The interface: what stands in which file, with which parameters."""

import inspect
import unittest

from halfpicked import back, covers, curves, errors, halves, kernel, webs, whole
from tests.support import pairs

FUNCTIONS = {
    halves: {
        "is_answer": "web x", "cost": "web x", "worth": "web", "answer": "web", "is_best": "web x",
        "tie_prices": "web", "prices_fault": "web y",
    },
    kernel: {
        "merge": "web a b", "kernel": "web", "least": "web", "can": "web place x", "fixed": "web",
        "loose": "web", "forced": "web kept", "all_half": "web",
    },
    covers: {
        "is_cover": "web cover", "cover_price": "web cover", "is_best_cover": "web cover", "best": "web",
        "cover_cost": "web", "gap": "web", "apart": "web", "mended": "web x cover", "softened": "web x cover",
        "follow": "web x", "every": "web", "each": "web", "count": "web", "sure": "web", "never": "web",
    },
    whole: {"is_whole": "web", "whole_paper": "web", "odd": "web", "least_whole": "web"},
    curves: {"keeps": "web x place"},
    back: {"prices_for": "web x", "only_for": "web x", "fault_of": "web x"},
}
METHODS = {
    webs.Web: {
        "__init__": "places ties prices", "places": "", "ties": "", "price": "place", "near": "place",
        "degree": "place", "__len__": "", "__contains__": "x", "__eq__": "other", "with_price": "place price",
        "with_tie": "a b", "without_tie": "a b", "with_place": "place price", "without_place": "place",
        "inside": "places", "__add__": "other",
    },
    curves.Curve: {"__init__": "web place", "breaks": "", "__call__": "price", "at": "price", "__eq__": "other"},
}
PROPERTIES = {curves.Curve: ("none", "half", "both")}


class Interface(unittest.TestCase):

    def test_functions(self):
        for module, functions in FUNCTIONS.items():
            for name, names in functions.items():
                function = getattr(module, name)
                self.assertEqual(function.__module__, module.__name__)
                parameters = inspect.signature(function).parameters.values()
                self.assertEqual(" ".join(p.name for p in parameters), names)
                self.assertTrue(all(p.default is p.empty for p in parameters))
                self.assertTrue(all(p.kind is p.POSITIONAL_OR_KEYWORD for p in parameters))

    def test_methods(self):
        for owner, methods in METHODS.items():
            for name, names in methods.items():
                self.assertIn(name, vars(owner))
                parameters = list(inspect.signature(vars(owner)[name]).parameters.values())[1:]
                self.assertEqual(" ".join(p.name for p in parameters), names)
        price = inspect.signature(webs.Web.with_place).parameters["price"]
        self.assertEqual((price.default, price.kind), (1, price.KEYWORD_ONLY))

    def test_classes(self):
        self.assertEqual(webs.Web.__module__, "halfpicked.webs")
        self.assertEqual(curves.Curve.__module__, "halfpicked.curves")
        for owner, names in PROPERTIES.items():
            for name in names:
                self.assertIsInstance(vars(owner)[name], property)

    def test_webs_are_not_iterable(self):
        web = webs.Web(("a", "b"), pairs("ab"), {"a": 1, "b": 1})
        self.assertRaises(TypeError, iter, web)

    def test_the_base_error(self):
        self.assertTrue(issubclass(errors.HalfError, ValueError))


if __name__ == "__main__":
    unittest.main()
