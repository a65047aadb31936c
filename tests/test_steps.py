"""Readings and the steps between literals (points 35 and 36)."""

import itertools
import random
import unittest

from halfpicked.clauses import Clauses, chain, follows, is_true, must, reading_cost, ring, truth
from halfpicked.errors import BadLiteral, NoReading, NoTruth
from tests.support import (
    GREATEST, closure, letters, literals, odd_values, random_rows, small_clauses, step_pairs, told, true_readings,
)
from tests.test_clauses import NO_LITERALS

A, B, C = ("a", True), ("b", True), ("c", True)
NOT_A, NOT_B, NOT_C = ("a", False), ("b", False), ("c", False)
ROWS = [(A, B), (NOT_A, B), (A, NOT_B)]
CLAUSES = Clauses(("a", "b"), ROWS, {"a": 3, "b": 1})
FALSE = CLAUSES.with_row((NOT_A, NOT_B))
# No readings of a and b.
NO_READINGS = [
    {}, {"a": True}, {"a": True, "b": True, "c": True}, {"a": True, "c": True}, {"a": True, "b": 1},
    {"a": 0, "b": False}, {"a": True, "b": None}, {"a": True, "b": []}, {"a": True, 1: True}, {"a": 2, "b": 2},
    [("a", True), ("b", True)], ("a", "b"), {"a", "b"}, "ab", {A: True, B: True}, {"a": "True", "b": True},
    *odd_values(),
]


class Checks(unittest.TestCase):
    """What the tests of one list of rows have in common."""

    def check_chain(self, steps, way, literal, goal):
        self.assertIs(type(way), list)
        self.assertEqual((way[0], way[-1]), (literal, goal))
        self.assertTrue(all(pair in steps for pair in zip(way, way[1:])))
        self.assertEqual(len(set(way)), len(way))

    def check_ring(self, steps, found):
        self.assertIs(type(found), list)
        self.assertLessEqual(len(found), 161)
        self.assertEqual(found[0], found[-1])
        name, flag = found[0]
        self.assertIs(flag, True)
        self.assertIn((name, False), found)
        self.assertTrue(all(pair in steps for pair in zip(found, found[1:])))


class Example(Checks):
    """The example behind point 40, as far as it is about readings and steps."""

    def test_the_only_true_reading(self):
        self.assertEqual(truth(CLAUSES), {"a": True, "b": True})
        self.assertEqual(reading_cost(CLAUSES, {"a": True, "b": True}), 4)
        self.assertIsNone(ring(CLAUSES))
        self.assertEqual(must(CLAUSES), [A, B])

    def test_the_fourth_row(self):
        self.assertIsNone(truth(FALSE))
        self.check_ring(step_pairs(FALSE.rows()), ring(FALSE))
        self.check_ring(step_pairs(FALSE.rows()), [A, B, NOT_A, B, A])
        self.assertRaises(NoTruth, must, FALSE)


class SmallClauses(Checks):

    def test_readings(self):
        for names, rows, prices in small_clauses():
            clauses = Clauses(tuple(names), rows, prices)
            before = told(clauses)
            found = true_readings(names, rows)
            for flags in itertools.product((True, False), repeat=len(names)):
                reading = dict(zip(names[::-1], flags))
                self.assertIs(is_true(clauses, reading), reading in found)
                self.assertEqual(reading_cost(clauses, reading), sum(prices[name] for name in names if reading[name]))
                self.assertEqual(reading, dict(zip(names[::-1], flags)))
            if found:
                self.assertIn(truth(clauses), found)
                self.assertTrue(all(type(flag) is bool for flag in truth(clauses).values()))
                self.assertIsNone(ring(clauses))
                shared = [p for p in literals(names) if all(reading[p[0]] == p[1] for reading in found)]
                self.assertEqual(must(clauses), shared)
            else:
                self.assertIsNone(truth(clauses))
                self.check_ring(step_pairs(rows), ring(clauses))
                self.assertRaises(NoTruth, must, clauses)
            self.assertEqual(told(clauses), before)

    def test_steps(self):
        for names, rows, prices in itertools.islice(small_clauses(), 0, None, 3):
            clauses = Clauses(tuple(names), rows, prices)
            steps, after = step_pairs(rows), closure(names, rows)
            for literal in literals(names):
                self.assertEqual(follows(clauses, literal), sorted(after[literal]))
                for goal in literals(names):
                    way = chain(clauses, literal, goal)
                    if goal in after[literal]:
                        self.check_chain(steps, way, literal, goal)
                    else:
                        self.assertIsNone(way)
            if true_readings(names, rows):
                self.assertEqual(must(clauses), [p for p in literals(names) if p in after[(p[0], not p[1])]])


class Rows(Checks):
    """Rows of one literal twice, of two opposites, and none."""

    def test_no_rows(self):
        clauses = Clauses(("a", "b"), [], {"a": 0, "b": 0})
        self.assertEqual(follows(clauses, A), [A])
        self.assertEqual(chain(clauses, NOT_B, NOT_B), [NOT_B])
        self.assertIsNone(chain(clauses, A, NOT_A))
        self.assertIsNone(ring(clauses))
        self.assertEqual(must(clauses), [])
        self.assertTrue(is_true(clauses, {"a": False, "b": False}))

    def test_one_literal_twice(self):
        clauses = Clauses(("a", "b"), [(A, A), (NOT_B, NOT_B)], {"a": 1, "b": 1})
        self.assertEqual(follows(clauses, NOT_A), [NOT_A, A])
        self.assertEqual(follows(clauses, A), [A])
        self.assertEqual(chain(clauses, NOT_A, A), [NOT_A, A])
        self.assertEqual(truth(clauses), {"a": True, "b": False})
        self.assertEqual(must(clauses), [A, NOT_B])
        both = clauses.with_row((NOT_A, NOT_A))
        self.assertIsNone(truth(both))
        self.assertEqual(ring(both), [A, NOT_A, A])

    def test_two_opposites(self):
        clauses = Clauses(("a", "b"), [(A, NOT_A), (NOT_B, B)], {"a": 1, "b": 1})
        for literal in literals("ab"):
            self.assertEqual(follows(clauses, literal), [literal])
            self.assertEqual(chain(clauses, literal, literal), [literal])
        self.assertEqual(must(clauses), [])
        self.assertIsNone(ring(clauses))

    def test_results_are_new(self):
        follows(CLAUSES, A).clear()
        ring(FALSE).clear()
        must(CLAUSES).clear()
        truth(CLAUSES).clear()
        chain(CLAUSES, NOT_A, A).clear()
        self.assertEqual((follows(CLAUSES, A), must(CLAUSES)), ([A, B], [A, B]))
        self.assertEqual(truth(CLAUSES), {"a": True, "b": True})


class WrongArguments(unittest.TestCase):

    def wrong(self, error, call, *args, **more):
        with self.assertRaises(error) as caught:
            call(*args, **more)
        self.assertIs(caught.exception.__class__, error)
        self.assertEqual(vars(caught.exception), {})

    def test_readings(self):
        for clauses in (CLAUSES, FALSE, Clauses(("a", "b"), [], {"a": 1, "b": 1})):
            for value in NO_READINGS:
                self.wrong(NoReading, is_true, clauses, value)
                self.wrong(NoReading, reading_cost, clauses, value)

    def test_literals(self):
        for value in [*NO_LITERALS, C, (A, B), [A], ("a", True, "b"), None]:
            if value != C:
                self.wrong(BadLiteral, follows, Clauses(tuple("abc"), ROWS, dict.fromkeys("abc", 1)), value)
            self.wrong(BadLiteral, follows, CLAUSES, value)
            self.wrong(BadLiteral, chain, CLAUSES, value, A)
            self.wrong(BadLiteral, chain, CLAUSES, A, value)
            self.wrong(BadLiteral, chain, CLAUSES, value, value)

    def test_names_of_the_interface(self):
        reading = {"b": True, "a": False}
        self.assertIs(is_true(reading=reading, clauses=CLAUSES), False)
        self.assertEqual(reading_cost(reading=reading, clauses=CLAUSES), 1)
        self.assertEqual(truth(clauses=CLAUSES), {"a": True, "b": True})
        self.assertEqual(follows(literal=NOT_B, clauses=CLAUSES), literals("ab"))
        self.assertEqual(chain(goal=B, literal=A, clauses=CLAUSES), [A, B])
        self.assertIsNone(ring(clauses=CLAUSES))
        self.assertEqual(must(clauses=CLAUSES), [A, B])


class WideClauses(Checks):

    def check(self, clauses):
        names, rows = clauses.names(), clauses.rows()
        steps, after = step_pairs(rows), closure(names, rows)
        for literal in literals(names):
            self.assertEqual(follows(clauses, literal), sorted(after[literal]))
        for literal, goal in itertools.product(literals(names)[::7], literals(names)[::5]):
            way = chain(clauses, literal, goal)
            if goal in after[literal]:
                self.check_chain(steps, way, literal, goal)
            else:
                self.assertIsNone(way)
        # There is no true reading just if two opposites follow from each other.
        if any((name, False) in after[(name, True)] and (name, True) in after[(name, False)] for name in names):
            self.assertIsNone(truth(clauses))
            self.check_ring(steps, ring(clauses))
            self.assertRaises(NoTruth, must, clauses)
        else:
            self.assertIs(is_true(clauses, truth(clauses)), True)
            self.assertIsNone(ring(clauses))
            self.assertEqual(must(clauses), [p for p in literals(names) if p in after[(p[0], not p[1])]])

    def test_random_rows(self):
        rng = random.Random(35)
        names = letters(40)
        for size in (10, 30, 38, 40, 42, 45, 60, 100, 400):
            for hidden in (None, {name: rng.random() < 0.5 for name in names}):
                rows = random_rows(rng, names, size, hidden)
                self.check(Clauses(tuple(names), rows, dict.fromkeys(names, 1)))

    def test_long_chains(self):
        names = letters(40)
        # Each name leads to the next one, the last one to its opposite, and so back.
        rows = [((a, False), (b, True)) for a, b in zip(names, names[1:])]
        rows.append(((names[-1], False), (names[-1], False)))
        clauses = Clauses(tuple(names), rows[::-1], dict.fromkeys(names, GREATEST))
        self.check(clauses)
        way = [(name, True) for name in names] + [(name, False) for name in names[::-1]]
        self.assertEqual(chain(clauses, way[0], way[-1]), way)
        self.assertEqual(must(clauses), [(name, False) for name in names])
        closed = clauses.with_row(((names[0], True), (names[0], True)))
        self.check(closed)
        self.assertIsNone(truth(closed))

    def test_two_long_chains(self):
        names = letters(40)
        # The names of the one half lead from the first literal to its opposite, the others back.
        first, left, right = names[0], names[1:20], names[20:]
        up = [(first, True), *[(name, True) for name in left]]
        down = [(first, False), *[(name, True) for name in right]]
        rows = [((a, not f), (b, g)) for some in (up, down) for (a, f), (b, g) in zip(some, some[1:])]
        rows += [((left[-1], False), (first, False)), ((right[-1], False), (first, True))]
        clauses = Clauses(tuple(names), rows, dict.fromkeys(names, 0))
        self.check(clauses)
        self.assertIsNone(truth(clauses))


if __name__ == "__main__":
    unittest.main()
