"""Trials (point 44)."""

import random
import unittest

from halfpicked.errors import (
    BadDeed, BadPrice, EmptyWeb, HalfError, NoName, NoPlace, NoTie, NoUndo, PlaceThere, SamePlace, TieThere,
)
from halfpicked.halves import worth
from halfpicked.kernel import kernel
from halfpicked.live import Live, trial
from tests.support import GREATEST, letters, numbered, odd_values, pairs
from tests.test_live import RING, undone

GOOD = ("price", "a", 2)
WRONG_DEEDS = [
    (), ("price",), ("price", "a"), ("price", "a", 1, 1), ("tie", "a"), ("tie", "a", "b", "c"), ("cut",), ("cut", "a"),
    ("cut", "a", "b", None), ("add",), ("add", "d"), ("add", "d", 1, 1), ("drop",), ("drop", "a", "b"), ("undo", 1),
    ("undo", "a"), ("moved", None), ("moved", ()), ("become", RING), ("worth",), ("kernel",), ("Price", "a", 1),
    ("price ", "a", 1), ("", "a", 1), (None, "a", 1), (b"price", "a", 1), (["price"], "a", 1), ({}, "a"), ({"undo"},),
    ["price", "a", 1], ["undo"], "undo", "moved", {"undo": 1}, {"undo"}, ("a", "price", 1), (("undo",),),
    *[value for value in odd_values() if value != ("undo",)],
]


class Trials(unittest.TestCase):

    def setUp(self):
        self.live = Live(RING)
        self.live["a"] = 3
        self.live.cut("a", "b")
        self.webs = undone(self.live)

    def tearDown(self):
        self.assertEqual(undone(self.live), self.webs)
        self.assertEqual(self.live.moved(), ["a", "b", "c"])

    def check(self, deeds, web):
        copies = list(deeds)
        self.assertEqual(trial(self.live, deeds), worth(web))
        self.assertEqual(deeds, copies)
        self.assertEqual(undone(self.live), self.webs)

    def wrong(self, error, fields, deeds):
        with self.assertRaises(error) as caught:
            trial(self.live, deeds)
        self.assertIs(caught.exception.__class__, error)
        self.assertEqual(vars(caught.exception), fields)
        self.assertEqual(undone(self.live), self.webs)

    def test_each_deed(self):
        web = self.live.web
        self.check([], web)
        self.check([("price", "c", 9)], web.with_price("c", 9))
        self.check([("tie", "b", "a")], web.with_tie("a", "b"))
        self.check([("cut", "c", "b")], web.without_tie("b", "c"))
        self.check([("add", "d", GREATEST)], web.with_place("d", price=GREATEST))
        self.check([("drop", "c")], web.without_place("c"))
        self.check([("undo",)], RING.with_price("a", 3))
        self.check([("undo",), ("undo",)], RING)
        self.check([("moved",)], web)

    def test_deeds_in_order(self):
        web = self.live.web.with_place("d", price=2).with_tie("a", "d").with_tie("b", "d").with_price("b", 7)
        deeds = [("add", "d", 2), ("tie", "a", "d"), ("moved",), ("tie", "d", "b"), ("price", "b", 7), ("moved",)]
        self.check(deeds, web)
        self.check([*deeds, ("undo",), ("undo",)], self.live.web.with_place("d", price=2).with_tie("a", "d"))
        self.check([*deeds, *[("undo",)] * 6], RING)
        web = self.live.web.without_place("a").with_place("a", price=4)
        self.check([("price", "a", 1), ("drop", "a"), ("add", "a", 4)], web)

    def test_names_of_the_interface(self):
        self.assertEqual(trial(deeds=[("undo",)], live=self.live), worth(RING.with_price("a", 3)))

    def test_it_is_part_of_a_block(self):
        with self.live:
            self.live.drop("b")
            self.assertEqual(trial(self.live, [("undo",), ("undo",), ("undo",)]), worth(RING))
            self.assertEqual(len(self.live.web), 2)
        self.assertEqual(undone(self.live), self.webs)

    def test_wrong_deeds(self):
        for value in WRONG_DEEDS:
            self.wrong(BadDeed, {"index": 0}, [value])
            self.wrong(BadDeed, {"index": 2}, [GOOD, ("moved",), value, value, GOOD])
            if not isinstance(value, list):
                self.wrong(BadDeed, {"index": -1}, value)
        for value in ((GOOD,), (), {GOOD: 1}, {GOOD}, None, GOOD):
            self.wrong(BadDeed, {"index": -1}, value)

    def test_wrong_deeds_go_first(self):
        self.wrong(BadDeed, {"index": 3}, [("drop", "z"), ("undo",), ("price", None, None), ("undo", 1)])
        self.wrong(BadDeed, {"index": 4}, [("undo",)] * 4 + [None])
        self.wrong(BadDeed, {"index": 1}, [("price", [], {}), ("drop", "a", "b")])

    def test_errors_of_deeds(self):
        for value in odd_values():
            if value != "zzzzzzzz":
                self.wrong(NoName, {"name": value}, [GOOD, ("add", value, None)])
            self.wrong(NoPlace, {"place": value}, [("moved",), ("price", value, None)])
            self.wrong(NoPlace, {"place": value}, [("drop", "b"), ("drop", value)])
            self.wrong(NoPlace, {"place": value}, [("tie", value, value)])
            self.wrong(NoPlace, {"place": value}, [("cut", "a", value)])
        for price in (0, GREATEST + 1, None, True, "1", []):
            self.wrong(BadPrice, {"place": "a"}, [("price", "a", 1), ("price", "a", price), ("drop", "z")])
            self.wrong(BadPrice, {"place": "d"}, [("add", "d", price)])
        self.wrong(PlaceThere, {"place": "d"}, [("add", "d", 1), ("add", "d", 1)])
        self.wrong(SamePlace, {"place": "a"}, [("tie", "a", "a")])
        self.wrong(TieThere, {"pair": ("a", "c")}, [("tie", "c", "a")])
        self.wrong(NoTie, {"pair": ("a", "b")}, [("undo",), ("cut", "b", "a"), ("cut", "b", "a")])
        self.wrong(EmptyWeb, {}, [("drop", "a"), ("drop", "b"), ("drop", "c")])
        self.wrong(NoUndo, {}, [("undo",), ("undo",), ("undo",)])
        self.wrong(NoUndo, {}, [("price", "a", 1), *[("undo",)] * 4])

    def test_random_deeds(self):
        rng = random.Random(44)
        names = letters(6)
        web = numbered(6, [tie for tie in pairs(range(6)) if rng.random() < 0.5])
        errors = 0
        for _ in range(300):
            live = Live(web)
            live[names[0]] = 2
            deeds = [self.random_deed(rng, names) for _ in range(rng.randint(0, 6))]
            other = Live(web)
            other[names[0]] = 2
            try:
                for deed in deeds:
                    self.do(other, *deed)
            except HalfError as error:
                errors += 1
                with self.assertRaises(error.__class__) as caught:
                    trial(live, deeds)
                self.assertEqual(vars(caught.exception), vars(error))
            else:
                self.assertEqual(trial(live, deeds), other.worth())
            self.assertEqual(undone(live), [web.with_price(names[0], 2), web])
            self.assertEqual(live.moved(), sorted(set(kernel(web)) ^ set(kernel(live.web))))
        self.assertTrue(50 < errors < 250)

    def random_deed(self, rng, names):
        a, b = rng.choice(names), rng.choice(names)
        return rng.choice((
            ("price", a, rng.randint(1, 3)), ("tie", a, b), ("cut", a, b), ("add", a, 1), ("add", a + "z", 2),
            ("drop", a), ("undo",), ("moved",),
        ))

    def do(self, live, word, *parts):
        calls = {"tie": live.tie, "cut": live.cut, "drop": live.drop, "undo": live.undo, "moved": live.moved}
        if word == "price":
            live[parts[0]] = parts[1]
        elif word == "add":
            live.add(parts[0], price=parts[1])
        else:
            calls[word](*parts)


if __name__ == "__main__":
    unittest.main()
