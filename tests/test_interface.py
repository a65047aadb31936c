"""The interface: what stands in which file, with which parameters."""

import inspect
import unittest

from halfpicked import back, clauses, covers, curves, errors, halves, kernel, live, readings, texts, webs, whole
from tests.support import pairs

FUNCTIONS = {
    halves: {
        "is_answer": "web x", "cost": "web x", "worth": "web", "answer": "web", "is_best": "web x",
        "tie_prices": "web", "prices_fault": "web y",
    },
    kernel: {
        "merge": "web a b", "kernel": "web", "least": "web", "can": "web place x", "fixed": "web",
        "loose": "web", "forced": "web kept", "all_half": "web",
    },
    covers: {
        "is_cover": "web cover", "cover_price": "web cover", "is_best_cover": "web cover", "best": "web",
        "cover_cost": "web", "gap": "web", "apart": "web", "mended": "web x cover", "softened": "web x cover",
        "follow": "web x", "every": "web", "each": "web", "count": "web", "sure": "web", "never": "web",
    },
    whole: {"is_whole": "web", "whole_paper": "web", "odd": "web", "least_whole": "web"},
    curves: {"keeps": "web x place"},
    back: {"prices_for": "web x", "only_for": "web x", "fault_of": "web x"},
    clauses: {
        "is_true": "clauses reading", "reading_cost": "clauses reading", "truth": "clauses",
        "follows": "clauses literal", "chain": "clauses literal goal", "ring": "clauses", "must": "clauses",
        "is_half": "clauses x", "half_cost": "clauses x", "half_worth": "clauses", "half_reading": "clauses",
        "is_best_half": "clauses x",
    },
    readings: {
        "half_merge": "clauses first second", "half_kernel": "clauses", "half_least": "clauses",
        "half_fixed": "clauses", "mended_reading": "clauses x reading", "softened_half": "clauses x reading",
        "best_reading": "clauses", "best_cost": "clauses", "sure_names": "clauses", "of_web": "web",
    },
    live: {"trial": "live deeds"},
    texts: {
        "web_text": "web", "read_web": "text", "answer_text": "web x", "read_answer": "web text",
        "clauses_text": "clauses", "read_clauses": "text",
    },
}
METHODS = {
    webs.Web: {
        "__init__": "places ties prices", "places": "", "ties": "", "price": "place", "near": "place",
        "degree": "place", "__len__": "", "__contains__": "x", "__eq__": "other", "with_price": "place price",
        "with_tie": "a b", "without_tie": "a b", "with_place": "place price", "without_place": "place",
        "inside": "places", "__add__": "other",
    },
    curves.Curve: {"__init__": "web place", "breaks": "", "__call__": "price", "at": "price", "__eq__": "other"},
    clauses.Clauses: {
        "__init__": "names rows prices", "names": "", "rows": "", "price": "name", "__len__": "", "__contains__": "x",
        "__eq__": "other", "with_row": "row", "with_cost": "name price",
    },
    live.Live: {
        "__init__": "web", "become": "web", "__getitem__": "place", "__setitem__": "place price", "worth": "",
        "answer": "", "kernel": "", "tie": "a b", "cut": "a b", "add": "place price", "drop": "place", "undo": "",
        "moved": "", "__enter__": "", "__exit__": "kind value trace",
    },
}
PROPERTIES = {curves.Curve: ("none", "half", "both"), live.Live: ("web",)}


class Interface(unittest.TestCase):

    def test_functions(self):
        for module, functions in FUNCTIONS.items():
            for name, names in functions.items():
                function = getattr(module, name)
                self.assertEqual(function.__module__, module.__name__)
                parameters = inspect.signature(function).parameters.values()
                self.assertEqual(" ".join(p.name for p in parameters), names)
                self.assertTrue(all(p.default is p.empty for p in parameters))
                self.assertTrue(all(p.kind is p.POSITIONAL_OR_KEYWORD for p in parameters))

    def test_methods(self):
        for owner, methods in METHODS.items():
            for name, names in methods.items():
                self.assertIn(name, vars(owner))
                parameters = list(inspect.signature(vars(owner)[name]).parameters.values())[1:]
                self.assertEqual(" ".join(p.name for p in parameters), names)
        for method in (webs.Web.with_place, live.Live.add):
            price = inspect.signature(method).parameters["price"]
            self.assertEqual((price.default, price.kind), (1, price.KEYWORD_ONLY))

    def test_classes(self):
        for module, owner in ((webs, webs.Web), (curves, curves.Curve), (clauses, clauses.Clauses), (live, live.Live)):
            self.assertEqual(owner.__module__, module.__name__)
        for owner, names in PROPERTIES.items():
            for name in names:
                self.assertIsInstance(vars(owner)[name], property)

    def test_what_is_not_iterable(self):
        web = webs.Web(("a", "b"), pairs("ab"), {"a": 1, "b": 1})
        for value in (web, live.Live(web), readings.of_web(web)):
            self.assertRaises(TypeError, iter, value)

    def test_the_base_error(self):
        self.assertTrue(issubclass(errors.HalfError, ValueError))


if __name__ == "__main__":
    unittest.main()
