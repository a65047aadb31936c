"""Live webs (points 41 to 43)."""

import contextlib
import random
import unittest

from halfpicked.errors import (
    BadPrice, EmptyWeb, HalfError, NoName, NoPlace, NoTie, NoUndo, PlaceThere, SamePlace, TieThere, TooMany,
)
from halfpicked.halves import is_best, worth
from halfpicked.kernel import kernel
from halfpicked.live import Live
from halfpicked.webs import Web
from tests.support import GREATEST, letters, numbered, odd_integers, odd_values, pairs, same_field, snapshot

RING = Web(("a", "b", "c"), pairs("abc"), {"a": 1, "b": 1, "c": 1})
WRONG_PRICES = (0, -1, GREATEST + 1, 10 ** 5000, *odd_integers())


def undone(live):
    """The webs that `undo` leads back to, the present one first; the object is as before afterwards."""
    webs = [live.web]
    with live:
        with contextlib.suppress(NoUndo):
            while True:
                live.undo()
                webs.append(live.web)
    return webs


class LiveWebs(unittest.TestCase):

    def wrong(self, live, error, fields, call, *args, **more):
        """The call raises this error and changes nothing."""
        webs = undone(live)
        with self.assertRaises(error) as caught:
            call(*args, **more)
        self.assertIs(caught.exception.__class__, error)
        self.assertEqual(list(vars(caught.exception)), list(fields))
        for field, value in fields.items():
            if isinstance(value, tuple) and len(value) == 2 or field == "limit":
                self.assertEqual(getattr(caught.exception, field), value)
            else:
                same_field(self, caught.exception, field, value)
        self.assertEqual(undone(live), webs)


class Reading(LiveWebs):

    def test_web(self):
        live = Live(RING)
        self.assertEqual(live.web, RING)
        self.assertEqual(Live(web=RING).web, RING)
        self.assertIsInstance(vars(Live)["web"], property)

    def test_prices(self):
        live = Live(Web(("b", "a"), [], {"a": 5, "b": GREATEST}))
        self.assertEqual((live["a"], live["b"]), (5, GREATEST))
        for value in (*odd_values(), "c", "ab", slice(None), ("a", "b")):
            with self.assertRaises(NoPlace) as caught:
                live[value]
            same_field(self, caught.exception, "place", value)

    def test_what_the_functions_return(self):
        rng = random.Random(41)
        for _ in range(60):
            many = rng.randint(1, 8)
            ties = [tie for tie in pairs(range(many)) if rng.random() < 0.5]
            web = numbered(many, ties, [rng.randint(1, 3) for _ in range(many)])
            live = Live(web)
            self.assertEqual((live.worth(), live.kernel()), (worth(web), kernel(web)))
            self.assertIs(is_best(web, live.answer()), True)
            live.kernel().append("z")
            live.answer().clear()
            self.assertEqual(live.kernel(), kernel(web))

    def test_not_iterable(self):
        live = Live(RING)
        self.assertRaises(TypeError, iter, live)
        self.assertRaises(TypeError, list, live)
        with self.assertRaises(TypeError):
            "a" in live
        with self.assertRaises(TypeError):
            for _ in live:
                pass


class Deeds(LiveWebs):

    def check_step(self, live, call, *args, **more):
        """The call is one step that returns None."""
        webs = undone(live)
        self.assertIsNone(call(*args, **more))
        self.assertEqual(undone(live)[1:], webs)

    def test_each_deed(self):
        live = Live(RING)
        for call, args, more, web in (
            (live.__setitem__, ("a", 7), {}, RING.with_price("a", 7)),
            (live.cut, ("c", "a"), {}, RING.with_price("a", 7).without_tie("a", "c")),
            (live.tie, ("c", "a"), {}, RING.with_price("a", 7)),
            (live.add, ("d",), {"price": 5}, RING.with_price("a", 7).with_place("d", price=5)),
            (live.drop, ("b",), {}, RING.with_price("a", 7).with_place("d", price=5).without_place("b")),
            (live.add, ("b",), {}, RING.with_price("a", 7).with_place("d", price=5).without_place("b").with_place("b")),
            (live.become, (RING,), {}, RING),
        ):
            self.check_step(live, call, *args, **more)
            self.assertEqual(live.web, web)
            self.assertEqual((live.worth(), live.kernel()), (worth(web), kernel(web)))
        self.assertEqual(len(undone(live)), 8)

    def test_names_of_the_interface(self):
        live = Live(web=RING)
        self.check_step(live, live.cut, b="a", a="b")
        self.check_step(live, live.tie, b="a", a="b")
        self.check_step(live, live.add, price=GREATEST, place="d")
        self.assertEqual(live["d"], GREATEST)
        self.check_step(live, live.drop, place="d")
        self.check_step(live, live.become, web=RING)
        self.assertRaises(TypeError, live.add, "d", 3)

    def test_price_as_item(self):
        live = Live(RING)
        live["b"] = GREATEST
        self.assertEqual((live["b"], live.web), (GREATEST, RING.with_price("b", GREATEST)))
        live["a"] += 2
        self.assertEqual(live["a"], 3)
        self.assertEqual(len(undone(live)), 3)

    def test_steps_that_change_nothing(self):
        live = Live(RING)
        self.check_step(live, live.__setitem__, "a", 1)
        self.check_step(live, live.become, RING)
        self.check_step(live, live.become, live.web)
        self.assertEqual(undone(live), [RING] * 4)

    def test_errors(self):
        live = Live(RING.without_tie("a", "b"))
        live["c"] = 2
        for value in (*odd_values(), "z"):
            place = {"place": value}
            self.wrong(live, NoPlace, place, live.__setitem__, value, None)
            self.wrong(live, NoPlace, place, live.tie, value, value)
            self.wrong(live, NoPlace, place, live.tie, "a", value)
            self.wrong(live, NoPlace, place, live.cut, value, None)
            self.wrong(live, NoPlace, place, live.cut, "a", value)
            self.wrong(live, NoPlace, place, live.drop, value)
            if value not in ("zzzzzzzz", "z"):
                self.wrong(live, NoName, {"name": value}, live.add, value, price=None)
        for value in WRONG_PRICES:
            self.wrong(live, BadPrice, {"place": "a"}, live.__setitem__, "a", value)
            self.wrong(live, BadPrice, {"place": "d"}, live.add, "d", price=value)
            self.wrong(live, PlaceThere, {"place": "a"}, live.add, "a", price=value)
        self.wrong(live, SamePlace, {"place": "a"}, live.tie, "a", "a")
        self.wrong(live, TieThere, {"pair": ("a", "c")}, live.tie, "c", "a")
        self.wrong(live, NoTie, {"pair": ("a", "b")}, live.cut, "b", "a")
        self.wrong(live, NoTie, {"pair": ("b", "b")}, live.cut, "b", "b")
        live.become(Web(("a",), [], {"a": 1}))
        self.wrong(live, EmptyWeb, {}, live.drop, "a")

    def test_full_webs(self):
        names = letters(40)
        ties = pairs(names)
        live = Live(Web(tuple(names), ties[:399], dict.fromkeys(names, 1)))
        live.tie(*ties[399])
        self.wrong(live, TooMany, {"limit": 400}, live.tie, *ties[400])
        self.wrong(live, TooMany, {"limit": 40}, live.add, "z", price=0)
        live.drop(names[0])
        live.add("z")
        self.wrong(live, TooMany, {"limit": 40}, live.add, "y")
        self.assertEqual(len(undone(live)), 4)

    def test_undo_without_a_step(self):
        live = Live(RING)
        self.wrong(live, NoUndo, {}, live.undo)
        live["a"] = 2
        self.assertIsNone(live.undo())
        self.wrong(live, NoUndo, {}, live.undo)
        self.assertEqual(live.web, RING)
        for _ in range(3):
            with self.assertRaises(NoPlace):
                live["z"] = 1
        self.wrong(live, NoUndo, {}, live.undo)

    def test_undo_and_other_deeds(self):
        live = Live(RING)
        live["a"] = 2
        live["a"] = 3
        live.undo()
        live["a"] = 4
        self.assertEqual([web.price("a") for web in undone(live)], [4, 2, 1])
        live.undo()
        live.undo()
        self.assertEqual(live.web, RING)

    def test_a_hundred_thousand_steps(self):
        live = Live(RING)
        webs = [RING.with_price("a", price) for price in range(1, 11)]
        for step in range(100000):
            live.become(webs[step // 7 - step // 7 // 10 * 10])
        for step in range(99999, -1, -1):
            if step - step // 9973 * 9973 == 0:
                self.assertEqual(live["a"], 1 + step // 7 - step // 7 // 10 * 10)
            live.undo()
        self.assertEqual(live.web, RING)
        self.wrong(live, NoUndo, {}, live.undo)

    def test_a_web_is_not_changed(self):
        before = snapshot(RING)
        live = Live(RING)
        live["a"] = 9
        live.drop("b")
        self.assertEqual(snapshot(RING), before)

    def test_two_objects_of_one_web(self):
        one, two = Live(RING), Live(RING)
        one["a"] = 9
        one.cut("a", "b")
        two.drop("c")
        self.assertEqual((one["a"], two["a"], len(one.web), len(two.web)), (9, 1, 3, 2))
        self.assertEqual((one.moved(), two.moved()), (["a", "b", "c"], ["a", "b", "c"]))
        with one:
            two.undo()
            one.undo()
        self.assertEqual((one.web.ties(), two.web), ([("a", "c"), ("b", "c")], RING))
        self.assertRaises(NoUndo, two.undo)
        one.undo()
        one.undo()
        self.assertRaises(NoUndo, one.undo)


class Moved(LiveWebs):

    def test_first_call(self):
        live = Live(RING)
        self.assertEqual(live.moved(), [])
        live = Live(RING)
        live.cut("a", "b")
        self.assertEqual(live.moved(), ["a", "b", "c"])
        self.assertEqual(live.moved(), [])

    def test_dropped_places(self):
        live = Live(RING)
        live.drop("b")
        self.assertEqual(live.moved(), ["a", "b", "c"])
        live.undo()
        self.assertEqual(live.moved(), ["a", "b", "c"])
        live.become(Web(("c", "d", "e"), pairs("cde"), {"c": 1, "d": 1, "e": 1}))
        self.assertEqual(live.moved(), ["a", "b", "d", "e"])
        live.drop("c")
        live.add("c")
        live.tie("c", "d")
        live.tie("c", "e")
        self.assertEqual(live.moved(), [])

    def test_undo_does_not_change_what_it_remembers(self):
        live = Live(RING)
        live.cut("a", "b")
        live.moved()
        live.undo()
        self.assertEqual(live.moved(), ["a", "b", "c"])
        live.cut("a", "b")
        live.undo()
        self.assertEqual(live.moved(), [])

    def test_it_is_no_step(self):
        live = Live(RING)
        live.moved()
        self.assertRaises(NoUndo, live.undo)
        live["a"] = 5
        live.moved()
        live.undo()
        self.assertEqual(live.web, RING)
        self.assertRaises(NoUndo, live.undo)

    def test_results_are_new(self):
        live = Live(RING)
        live.cut("a", "b")
        live.moved().clear()
        live.undo()
        live.moved().append("z")
        live.kernel().clear()
        self.assertEqual(live.moved(), [])

    def test_errors_do_not_change_what_it_remembers(self):
        live = Live(RING)
        live.cut("a", "b")
        for _ in range(2):
            self.wrong(live, NoTie, {"pair": ("a", "b")}, live.cut, "a", "b")
        self.assertEqual(live.moved(), ["a", "b", "c"])


class Blocks(LiveWebs):

    def test_everything_comes_back(self):
        live = Live(RING)
        live["a"] = 2
        live.cut("a", "b")
        webs = undone(live)
        with live as same:
            self.assertIs(same, live)
            self.assertEqual(live.moved(), ["a", "b", "c"])
            live.undo()
            live.undo()
            self.assertRaises(NoUndo, live.undo)
            live.add("z")
            live.become(RING.with_price("b", 9))
            self.assertEqual(live["b"], 9)
        self.assertEqual((live.web, undone(live)), (webs[0], webs))
        self.assertEqual(live.moved(), ["a", "b", "c"])

    def test_a_block_that_ends_by_an_error(self):
        live = Live(RING)
        live.add("d")
        for error in (KeyError, NoUndo, ZeroDivisionError):
            with self.assertRaises(error):
                with live:
                    live.drop("a")
                    live.moved()
                    raise error()
            self.assertEqual(undone(live), [RING.with_place("d"), RING])
            self.assertEqual(live.moved(), [])

    def test_errors_of_deeds(self):
        live = Live(RING)
        with self.assertRaises(NoPlace) as caught:
            with live:
                live.drop("b")
                live.cut("a", "b")
        same_field(self, caught.exception, "place", caught.exception.place)
        self.assertEqual((caught.exception.place, undone(live)), ("b", [RING]))

    def leave_early(self, live):
        with live:
            live.drop("a")
            return live.worth()

    def test_other_ends(self):
        live = Live(RING)
        self.assertEqual(self.leave_early(live), 2)
        for _ in range(3):
            with live:
                live.drop("a")
                continue
        while True:
            with live:
                live.drop("a")
                break
        self.assertEqual(undone(live), [RING])

    def test_nested_blocks(self):
        live = Live(RING)
        live.add("d")
        with live:
            live["a"] = 3
            live.undo()
            live.undo()
            live["b"] = 4
            inner = undone(live)
            with live as same:
                self.assertIs(same, live)
                live.undo()
                live.cut("a", "b")
                live.moved()
                with self.assertRaises(HalfError), live:
                    live.drop("a")
                    live.drop("a")
                self.assertEqual(undone(live), [RING.without_tie("a", "b"), RING])
                self.assertEqual(live.moved(), [])
            self.assertEqual(undone(live), inner)
            live.cut("a", "b")
            self.assertEqual(live.moved(), ["a", "b", "c"])
        self.assertEqual(undone(live), [RING.with_place("d"), RING])
        self.assertEqual(live.moved(), [])

    def test_many_nested_blocks(self):
        live = Live(RING)
        with contextlib.ExitStack() as stack:
            for price in range(2, 500):
                stack.enter_context(live)
                live["a"] = price
            self.assertEqual(live["a"], 499)
        self.assertEqual(undone(live), [RING])

    def test_blocks_of_two_objects(self):
        one, two = Live(RING), Live(RING)
        with one, two:
            one["a"] = 5
            two["b"] = 6
            with one:
                two["b"] = 7
                one["a"] = 8
            self.assertEqual((one["a"], two["b"]), (5, 7))
        self.assertEqual((one.web, two.web), (RING, RING))


class ManySteps(LiveWebs):
    """Random deeds beside a plain list of webs."""

    def setUp(self):
        self.rng = random.Random(42)

    def deed(self, live, web, names):
        """Does a random deed, and returns the web that it should lead to, or the error."""
        a, b, place = (self.rng.choice(names) for _ in "abc")
        price = self.rng.choice((1, 2, 3, GREATEST, 0))
        other = numbered(3, pairs(range(3)))
        calls = [
            (lambda: live.__setitem__(a, price), lambda: web.with_price(a, price)),
            (lambda: live.tie(a, b), lambda: web.with_tie(a, b)),
            (lambda: live.tie(b, a), lambda: web.with_tie(b, a)),
            (lambda: live.cut(a, b), lambda: web.without_tie(a, b)),
            (lambda: live.add(place, price=price), lambda: web.with_place(place, price=price)),
            (lambda: live.drop(place), lambda: web.without_place(place)),
        ]
        deed, expected = self.rng.choice(calls)
        if self.rng.random() < 0.02:
            deed, expected = lambda: live.become(other), lambda: other
        try:
            new = expected()
        except HalfError as error:
            with self.assertRaises(HalfError) as caught:
                deed()
            self.assertIs(caught.exception.__class__, error.__class__)
            self.assertEqual(vars(caught.exception), vars(error))
            return None
        self.assertIsNone(deed())
        return new

    def run_deeds(self, live, webs, known, steps):
        """Does these many deeds beside the list of webs, and returns the kernel at the last `moved`."""
        for _ in range(steps):
            kind = self.rng.random()
            if kind < 0.1:
                now = kernel(webs[-1])
                self.assertEqual(live.moved(), sorted(set(now) ^ set(known)))
                known = now
            elif kind < 0.18 and len(webs) > 1:
                webs.pop()
                self.assertIsNone(live.undo())
            elif kind < 0.2:
                with live:
                    self.run_deeds(live, list(webs), known, 4)
            else:
                new = self.deed(live, webs[-1], letters(9))
                webs += [] if new is None else [new]
            self.assertEqual(live.web, webs[-1])
        return known

    def test_hundreds_of_steps(self):
        for _ in range(4):
            web = numbered(6, [tie for tie in pairs(range(6)) if self.rng.random() < 0.4])
            live, webs = Live(web), [web]
            known = self.run_deeds(live, webs, kernel(web), 2500)
            self.assertGreater(len(webs), 200)
            self.assertEqual((live.worth(), live.kernel()), (worth(webs[-1]), kernel(webs[-1])))
            self.assertEqual(undone(live), webs[::-1])
            for back in webs[-2::-1]:
                live.undo()
                self.assertEqual(live.web, back)
            self.assertEqual(live.web, web)
            self.assertRaises(NoUndo, live.undo)
            self.assertEqual(live.moved(), sorted(set(known) ^ set(kernel(web))))


if __name__ == "__main__":
    unittest.main()
