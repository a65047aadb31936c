"""The interface: what stands in which file, with which parameters."""

import inspect
import unittest

from halfpicked import errors, halves, kernel, webs
from tests.support import pairs

FUNCTIONS = {
    halves: {
        "is_answer": "web x", "cost": "web x", "worth": "web", "answer": "web", "is_best": "web x",
        "tie_prices": "web", "prices_fault": "web y",
    },
    kernel: {
        "merge": "web a b", "kernel": "web", "least": "web", "can": "web place x", "fixed": "web",
        "loose": "web", "forced": "web kept", "all_half": "web",
    },
}
METHODS = {
    "__init__": "places ties prices", "places": "", "ties": "", "price": "place", "near": "place",
    "degree": "place", "__len__": "", "__contains__": "x", "__eq__": "other", "with_price": "place price",
    "with_tie": "a b", "without_tie": "a b", "with_place": "place price", "without_place": "place",
    "inside": "places", "__add__": "other",
}


class Interface(unittest.TestCase):

    def test_functions(self):
        for module, functions in FUNCTIONS.items():
            for name, names in functions.items():
                function = getattr(module, name)
                self.assertEqual(function.__module__, module.__name__)
                parameters = inspect.signature(function).parameters.values()
                self.assertEqual(" ".join(p.name for p in parameters), names)
                self.assertTrue(all(p.default is p.empty for p in parameters))
                self.assertTrue(all(p.kind is p.POSITIONAL_OR_KEYWORD for p in parameters))

    def test_methods(self):
        self.assertEqual(webs.Web.__module__, "halfpicked.webs")
        for name, names in METHODS.items():
            self.assertIn(name, vars(webs.Web))
            parameters = list(inspect.signature(vars(webs.Web)[name]).parameters.values())[1:]
            self.assertEqual(" ".join(p.name for p in parameters), names)
        price = inspect.signature(webs.Web.with_place).parameters["price"]
        self.assertEqual((price.default, price.kind), (1, price.KEYWORD_ONLY))

    def test_webs_are_not_iterable(self):
        web = webs.Web(("a", "b"), pairs("ab"), {"a": 1, "b": 1})
        self.assertRaises(TypeError, iter, web)

    def test_the_base_error(self):
        self.assertTrue(issubclass(errors.HalfError, ValueError))


if __name__ == "__main__":
    unittest.main()
