"""Texts (points 45 to 48)."""

import itertools
import random
import re
import unittest

from halfpicked.clauses import Clauses
from halfpicked.errors import NoAnswer, NoText
from halfpicked.halves import is_answer
from halfpicked.texts import answer_text, clauses_text, read_answer, read_clauses, read_web, web_text
from halfpicked.webs import Web
from tests.support import (
    GREATEST, letters, listed, numbered, odd_values, pairs, random_rows, small_clauses, small_webs, snapshot, told,
)

PAIR = Web(("a", "b"), [("a", "b")], {"a": 2, "b": 5})
ROWS = [(("b", True), ("a", False)), (("a", True), ("a", True)), (("b", False), ("b", True))]
CLAUSES = Clauses(("b", "a"), ROWS, {"a": 0, "b": GREATEST})
CLAUSES_TEXT = f"clauses\nname a 0\nname b {GREATEST}\nrow +b -a\nrow +a +a\nrow -b +b\nend"
NO_STRINGS = [value for value in odd_values() if not isinstance(value, str)] + [["web", "place a 1", "end"], b"web"]
# No words for a price from 0 to 10 ** 30.
NO_PRICES = [
    "", "-1", "+1", "01", "00", "1.0", "1e3", "1_000", "0x1", "one", "a", "1 ", " 1", "1 1", "\t1", "1\t", "1,000",
    str(GREATEST + 1), str(10 * GREATEST), "2" + "0" * 30, "9" * 31, "1" + "0" * 31, "0" + str(GREATEST), "9" * 5000,
    "1" + "0" * 100000, "0" * 100000, "0" * 99999 + "1", "--1", "1-", "(1)", "+", "-", "1/1", "~", "0b1", "1" * 32,
]
# No words for a name.
NO_NAMES = ["", "A", "aB", "a1", "a-", "+a", "-a", "abcdefghi", "a" * 100000, "\ta", "a\t", "a_", "~", "1", "a b"]


class Texts(unittest.TestCase):

    def wrong(self, line, read, *args):
        with self.assertRaises(NoText) as caught:
            read(*args)
        self.assertIs(caught.exception.__class__, NoText)
        self.assertEqual(vars(caught.exception), {"line": line})
        self.assertIs(type(caught.exception.line), int)

    def check_mutants(self, text, expected, read, reread, rng):
        """The reader names the first wrong line of changed texts; what is right goes to `reread`."""
        for mutant in mutants(text, rng):
            line = expected(mutant)
            if line is None:
                reread(mutant)
            else:
                self.wrong(line, read, mutant)


def mutants(text, rng):
    """Texts with a line left out, twice, moved, added or changed."""
    lines = text.split("\n")
    many = len(lines)
    spots = rng.sample(range(many), min(many, 6)) + [0, many - 1]
    for at in spots:
        before, line, after = lines[:at], lines[at], lines[at + 1:]
        yield "\n".join(before)
        yield "\n".join(before + after)
        yield "\n".join(before + [line, line] + after)
        rest = before + after
        to = rng.randint(0, len(rest))
        yield "\n".join(rest[:to] + [line] + rest[to:])
        for new in ("", " ", "end", "web", "place zz 1", "tie a b", "name zz 1", "row +a +a", "a 1", rng.choice(lines)):
            yield "\n".join(before + [new, line] + after)
            yield "\n".join(before + [new] + after)
            yield "\n".join(before + [line, new] + after)
        for new in changed(line, rng):
            yield "\n".join(before + [new] + after)
    yield text + "\n"
    yield "\n" + text
    yield text.replace("\n", "\n\n")
    yield text.replace("\n", " ")
    yield text.replace(" ", "  ")


def changed(line, rng):
    """Lines that differ a little from this one."""
    yield line + " "
    yield " " + line
    yield line.replace(" ", "  ")
    yield line.replace(" ", "\t")
    yield line.upper()
    yield line[:-1]
    yield line + line[-1:]
    yield line + " " + line
    yield " ".join(line.split(" ")[::-1])
    yield line.rpartition(" ")[0]
    for at in rng.sample(range(len(line)), min(3, len(line))):
        yield line[:at] + rng.choice("ab01 +-\t~") + line[at + 1:]


PRICE = "(0|[1-9][0-9]{0,30})"
NAME = "([a-z]{1,8})"


def first_wrong(text, first, word, least, other, fits):
    """The first wrong line of a text of names and others, by patterns for whole lines."""
    lines = text.split("\n")
    if lines[0] != first:
        return 1
    names, others = [], []
    for number, line in enumerate(lines[1:], 2):
        found = re.fullmatch(f"{word} {NAME} {PRICE}", line)
        if found and not others and len(names) < 40 and least <= int(found[2]) <= GREATEST:
            if not names or found[1] > names[-1]:
                names.append(found[1])
                continue
        found = re.fullmatch(other, line)
        if found and names and len(others) < 400 and fits(found.groups(), names, others):
            others.append(found.groups())
            continue
        if line != "end" or not names:
            return number
        return None if number == len(lines) else number + 1
    return len(lines) + 1


def wrong_web_line(text):
    def fits(tie, names, before):
        return tie[0] in names and tie[1] in names and tie[0] < tie[1] and (not before or before[-1] < tie)
    return first_wrong(text, "web", "place", 1, f"tie {NAME} {NAME}", fits)


def wrong_clauses_line(text):
    def fits(row, names, _):
        return row[1] in names and row[3] in names
    return first_wrong(text, "clauses", "name", 0, f"row ([+-]){NAME} ([+-]){NAME}", fits)


def wrong_answer_line(web, text):
    lines = text.split("\n")
    patterns = ["answer", *[f"{place} [012]" for place in web.places()], "end"]
    for number, (line, pattern) in enumerate(zip(lines, patterns), 1):
        if not re.fullmatch(pattern, line):
            return number
    return None if len(lines) == len(patterns) else min(len(lines), len(patterns)) + 1


class WebTexts(Texts):

    def test_example(self):
        text = "web\nplace a 2\nplace b 5\ntie a b\nend"
        self.assertEqual(web_text(PAIR), text)
        self.assertEqual(read_web(text), PAIR)
        self.wrong(3, read_web, "web\nplace a 2\nplace a 5\nend")

    def test_names_of_the_interface(self):
        self.assertEqual(read_web(text=web_text(web=PAIR)), PAIR)

    def test_small_webs(self):
        rng = random.Random(45)
        for places, ties, prices in itertools.islice(small_webs(), 0, None, 3):
            web = Web(tuple(places[::-1]), [(b, a) for a, b in ties], prices)
            shot = snapshot(web)
            text = web_text(web)
            rows = [f"place {name} {prices[name]}" for name in places] + [f"tie {a} {b}" for a, b in sorted(ties)]
            self.assertEqual(text, "\n".join(["web", *rows, "end"]))
            self.assertEqual(read_web(text), web)
            self.assertEqual(web_text(read_web(text)), text)
            self.assertEqual(snapshot(web), shot)
            if rng.random() < 0.3:
                self.check_mutants(text, wrong_web_line, read_web, self.reread_web, rng)

    def reread_web(self, text):
        self.assertEqual(web_text(read_web(text)), text)

    def test_wide_webs(self):
        rng = random.Random(46)
        names = sorted({"".join(rng.choice("abz") for _ in range(rng.randint(1, 8))) for _ in range(200)})
        for many, size in ((40, 400), (40, 0), (30, 200), (1, 0)):
            places = rng.sample(names, many)
            ties = rng.sample([pair for pair in itertools.permutations(places, 2) if pair[0] < pair[1]], size)
            prices = {place: rng.choice((1, GREATEST, rng.randint(1, GREATEST))) for place in places}
            web = Web(tuple(places), ties, prices)
            text = web_text(web)
            self.assertEqual(read_web(text), web)
            self.assertEqual(web_text(read_web(text)), text)
            self.check_mutants(text, wrong_web_line, read_web, self.reread_web, rng)

    def test_wrong_lines(self):
        for text, line in (
            ("", 1), ("\n", 1), ("web ", 1), (" web", 1), ("Web", 1), ("clauses\nname a 1\nend", 1), ("web\r", 1),
            ("web", 2), ("web\n", 2), ("web\nend", 2), ("web\ntie a b\nend", 2), ("web\nplace a", 2),
            ("web\nplace a 1", 3), ("web\nplace a 1\n", 3), ("web\nplace a 1\nEnd", 3), ("web\nplace a 1\nend ", 3),
            ("web\nplace a 1\nend\n", 4), ("web\nplace a 1\nend\nend", 4), ("web\nplace a 1\nend\n\n\n", 4),
            ("web\nplace b 1\nplace a 1\nend", 3), ("web\nplace a 1\nplace b 0\nend", 3), ("web\nplace a 0\nend", 2),
            ("web\nplace a 1\nplace b 1\ntie a b", 5), ("web\nplace a 1\nplace b 1\ntie b a\nend", 4),
            ("web\nplace a 1\nplace b 1\ntie a a\nend", 4), ("web\nplace a 1\nplace b 1\ntie a c\nend", 4),
            ("web\nplace a 1\nplace b 1\ntie a b\ntie a b\nend", 5), ("web\nplace a 1\nplace b 1\ntie a b c\nend", 4),
            ("web\nplace a 1\nplace b 1\nplace c 1\ntie b c\ntie a c\nend", 6),
            ("web\nplace a 1\nplace b 1\ntie a b\nplace c 1\nend", 5), ("web\nplace a 1\ntie a b\nplace b 1\nend", 3),
            ("web\nplace a 1\nweb\nplace a 1\nend", 3), ("web\nplace a 1\nname b 1\nend", 3),
        ):
            self.wrong(line, read_web, text)
            self.assertEqual(wrong_web_line(text), line)

    def test_words(self):
        for word in [*NO_PRICES, "0"]:
            self.wrong(2, read_web, f"web\nplace a {word}\nend")
            self.wrong(3, read_web, f"web\nplace a 1\nplace b {word}\ntie a b\nend")
        for word in NO_NAMES:
            self.wrong(2, read_web, f"web\nplace {word} 1\nend")
            self.wrong(3, read_web, f"web\nplace a 1\nplace {word} 1\nend")
            self.wrong(4, read_web, f"web\nplace a 1\nplace b 1\ntie a {word}\nend")
            self.wrong(4, read_web, f"web\nplace a 1\nplace b 1\ntie {word} b\nend")
        for word in ("1", "9", "10", str(GREATEST), str(GREATEST - 1), "9" * 30):
            web = read_web(f"web\nplace end {word}\nplace tie {word}\ntie end tie\nend")
            self.assertEqual((web.price("end"), web.ties()), (int(word), [("end", "tie")]))

    def test_limits(self):
        names = letters(42)
        places = [f"place {name} 1" for name in names]
        ties = [f"tie {a} {b}" for a, b in pairs(names[:40])]
        full = ["web", *places[:40], *ties[:400], "end"]
        self.assertEqual(len(read_web("\n".join(full)).ties()), 400)
        self.wrong(42, read_web, "\n".join(["web", *places[:41], *ties[:400], "end"]))
        self.wrong(442, read_web, "\n".join(["web", *places[:40], *ties[:401], "end"]))
        self.wrong(442, read_web, "\n".join(full[:-1]))
        self.wrong(443, read_web, "\n".join([*full, ""]))

    def test_very_long_texts(self):
        long = 10 ** 6
        self.wrong(1, read_web, "web" * long)
        self.wrong(1, read_web, "\n" * long)
        self.wrong(2, read_web, "web\n" + " " * long)
        self.wrong(2, read_web, "web\nplace a " + "9" * long + "\nend")
        self.wrong(3, read_web, "web\nplace a 1\n" + "place b 1 " * long)
        self.wrong(3, read_web, "web\nplace a 1\nplace " + "b" * long + " 1\nend")
        self.wrong(4, read_web, "web\nplace a 1\nend\n" + "end\n" * long)

    def test_no_strings(self):
        for value in NO_STRINGS:
            self.wrong(0, read_web, value)


class AnswerTexts(Texts):

    def test_example(self):
        text = "answer\na 2\nb 0\nend"
        self.assertEqual(answer_text(PAIR, {"b": 0, "a": 2}), text)
        self.assertEqual(read_answer(PAIR, text), {"a": 2, "b": 0})

    def test_names_of_the_interface(self):
        text = answer_text(x={"a": 1, "b": 1}, web=PAIR)
        self.assertEqual(read_answer(text=text, web=PAIR), {"a": 1, "b": 1})

    def test_small_webs(self):
        rng = random.Random(47)
        for places, ties, prices in itertools.islice(small_webs(), 0, None, 5):
            web = Web(tuple(places), ties, prices)
            found = [x for _, x in listed(places, ties, prices)]
            for x in rng.sample(found, min(5, len(found))):
                old = dict(x)
                text = answer_text(web, x)
                self.assertEqual(text, "\n".join(["answer", *[f"{name} {x[name]}" for name in places], "end"]))
                self.assertEqual(read_answer(web, text), x)
                self.assertTrue(all(type(value) is int for value in read_answer(web, text).values()))
                self.assertEqual(x, old)
            if rng.random() < 0.2:
                self.check_answer_mutants(web, text, rng)
            for values in itertools.islice(itertools.product((0, 1, 2), repeat=len(places)), 30):
                self.reread(web, "\n".join(["answer", *[f"{n} {v}" for n, v in zip(places, values)], "end"]))

    def check_answer_mutants(self, web, text, rng):
        self.check_mutants(
            text, lambda mutant: wrong_answer_line(web, mutant), lambda mutant: read_answer(web, mutant),
            lambda mutant: self.reread(web, mutant), rng,
        )

    def reread(self, web, text):
        """Reads a text of the right form."""
        x = {line.split(" ")[0]: int(line.split(" ")[1]) for line in text.split("\n")[1:-1]}
        if is_answer(web, x):
            self.assertEqual(answer_text(web, read_answer(web, text)), text)
        else:
            with self.assertRaises(NoAnswer) as caught:
                read_answer(web, text)
            self.assertEqual(vars(caught.exception), {})

    def test_wide_web(self):
        rng = random.Random(48)
        names = letters(40)
        web = Web(tuple(names), rng.sample(pairs(names), 400), dict.fromkeys(names, GREATEST))
        for low in (1, 2):
            x = {name: rng.randint(low, 2) for name in names}
            text = answer_text(web, x)
            self.assertEqual(read_answer(web, text), x)
            self.check_answer_mutants(web, text, rng)

    def test_no_answers(self):
        for value in [*odd_values(), {"a": 1}, {"a": 0, "b": 1}, {"a": 1, "b": True}, {"a": 1, "b": 3}, "answer"]:
            with self.assertRaises(NoAnswer) as caught:
                answer_text(PAIR, value)
            self.assertEqual(vars(caught.exception), {})
        for text in ("answer\na 0\nb 1\nend", "answer\na 0\nb 0\nend", "answer\na 1\nb 0\nend"):
            self.assertRaises(NoAnswer, read_answer, PAIR, text)

    def test_wrong_lines(self):
        for text, line in (
            ("", 1), ("answer ", 1), ("web", 1), ("answer", 2), ("answer\n", 2), ("answer\nend", 2), ("answer\nb 1", 2),
            ("answer\na 1", 3), ("answer\na 1\n", 3), ("answer\na 1\nend", 3), ("answer\na 1\na 1\nb 1\nend", 3),
            ("answer\na 1\nb 1", 4), ("answer\na 1\nb 1\n", 4), ("answer\na 1\nb 1\nc 1\nend", 4),
            ("answer\na 1\nb 1\nEnd", 4), ("answer\na 1\nb 1\nend\n", 5), ("answer\na 1\nb 1\nend\nend", 5),
            ("answer\na 3\nb 1\nend", 2), ("answer\na 1\nb -1\nend", 3), ("answer\na 01\nb 1\nend", 2),
            ("answer\na 1 \nb 1\nend", 2), ("answer\na  1\nb 1\nend", 2), ("answer\n a 1\nb 1\nend", 2),
            ("answer\na 1\nb\nend", 3), ("answer\na\t1\nb 1\nend", 2), ("answer\na +1\nb 1\nend", 2),
            ("answer\nA 1\nb 1\nend", 2), ("answer\na 1\nb 1 1\nend", 3), ("answer\na 1\nb one\nend", 3),
            ("answer\na " + "1" * 10 ** 6, 2), ("answer" * 10 ** 6, 1), ("answer\na 1\nb 1\nend" + "\n" * 10 ** 6, 5),
        ):
            self.wrong(line, read_answer, PAIR, text)

    def test_wrong_lines_go_before_no_answer(self):
        self.wrong(4, read_answer, PAIR, "answer\na 0\nb 0\nEnd")
        self.wrong(5, read_answer, PAIR, "answer\na 0\nb 0\nend\n")
        self.wrong(3, read_answer, PAIR, "answer\na 0\nb 4\nend")

    def test_places_that_are_words(self):
        web = Web(("answer", "end", "tie"), [("end", "tie")], {"answer": 1, "end": 1, "tie": 1})
        x = {"answer": 0, "end": 1, "tie": 1}
        self.assertEqual(answer_text(web, x), "answer\nanswer 0\nend 1\ntie 1\nend")
        self.assertEqual(read_answer(web, answer_text(web, x)), x)

    def test_no_strings(self):
        for value in NO_STRINGS:
            self.wrong(0, read_answer, PAIR, value)


class ClausesTexts(Texts):

    def test_example(self):
        self.assertEqual(clauses_text(CLAUSES), CLAUSES_TEXT)
        self.assertEqual(read_clauses(CLAUSES_TEXT), CLAUSES)

    def test_names_of_the_interface(self):
        self.assertEqual(read_clauses(text=clauses_text(clauses=CLAUSES)), CLAUSES)

    def reread_clauses(self, text):
        self.assertEqual(clauses_text(read_clauses(text)), text)

    def test_small_clauses(self):
        rng = random.Random(49)
        for names, rows, prices in itertools.islice(small_clauses(), 0, None, 3):
            clauses = Clauses(tuple(names[::-1]), rows, prices)
            before = told(clauses)
            text = clauses_text(clauses)
            self.assertEqual(read_clauses(text), clauses)
            self.assertEqual(read_clauses(text).rows(), rows)
            self.reread_clauses(text)
            self.assertEqual(told(clauses), before)
            if rng.random() < 0.2:
                self.check_mutants(text, wrong_clauses_line, read_clauses, self.reread_clauses, rng)

    def test_wide_clauses(self):
        rng = random.Random(50)
        for many, size in ((40, 400), (40, 0), (1, 400), (7, 30)):
            names = letters(many)
            rows = random_rows(rng, names, size)
            prices = {name: rng.choice((0, GREATEST, rng.randint(0, GREATEST))) for name in names}
            clauses = Clauses(tuple(names), rows, prices)
            text = clauses_text(clauses)
            self.assertEqual(read_clauses(text), clauses)
            self.reread_clauses(text)
            self.check_mutants(text, wrong_clauses_line, read_clauses, self.reread_clauses, rng)

    def test_wrong_lines(self):
        for text, line in (
            ("", 1), ("web\nplace a 1\nend", 1), ("clauses\n", 2), ("clauses", 2), ("clauses\nend", 2),
            ("clauses\nrow +a +a\nend", 2), ("clauses\nname a 1", 3), ("clauses\nname a 1\nname a 1\nend", 3),
            ("clauses\nname b 1\nname a 1\nend", 3), ("clauses\nname a 1\nrow +a +b\nend", 3),
            ("clauses\nname a 1\nrow +a a\nend", 3), ("clauses\nname a 1\nrow a +a\nend", 3),
            ("clauses\nname a 1\nrow ++a +a\nend", 3), ("clauses\nname a 1\nrow + +a\nend", 3),
            ("clauses\nname a 1\nrow +a\nend", 3), ("clauses\nname a 1\nrow +a +a +a\nend", 3),
            ("clauses\nname a 1\nrow +a  +a\nend", 3), ("clauses\nname a 1\nrow +A +a\nend", 3),
            ("clauses\nname a 1\nrow + a +a\nend", 3), ("clauses\nname a 1\nrow ~a +a\nend", 3),
            ("clauses\nname a 1\nrow +a -a\nname b 1\nend", 4), ("clauses\nname a 1\nrow +a -a\nend\n", 5),
            ("clauses\nname a 1\nrow +a -a\nrow +a -a", 5), ("clauses\nname a 1\nplace b 1\nend", 3),
            ("clauses\nname a 1\nend\nend", 4), ("clauses\nname a 1\nrow +a -\nend", 3),
        ):
            self.wrong(line, read_clauses, text)
            self.assertEqual(wrong_clauses_line(text), line)

    def test_words(self):
        for word in NO_PRICES:
            self.wrong(2, read_clauses, f"clauses\nname a {word}\nend")
            self.wrong(3, read_clauses, f"clauses\nname a 0\nname b {word}\nrow +a +b\nend")
        for word in NO_NAMES:
            self.wrong(2, read_clauses, f"clauses\nname {word} 1\nend")
            self.wrong(3, read_clauses, f"clauses\nname a 1\nrow +{word} -a\nend")
            self.wrong(3, read_clauses, f"clauses\nname a 1\nrow +a -{word}\nend")
        for word in ("0", "1", "10", str(GREATEST)):
            self.assertEqual(read_clauses(f"clauses\nname row {word}\nrow -row +row\nend").price("row"), int(word))

    def test_limits(self):
        names = [f"name {name} 0" for name in letters(41)]
        rows = ["row +aa -ab"] * 401
        full = ["clauses", *names[:40], *rows[:400], "end"]
        self.assertEqual(len(read_clauses("\n".join(full))), 400)
        self.wrong(42, read_clauses, "\n".join(["clauses", *names, *rows[:400], "end"]))
        self.wrong(442, read_clauses, "\n".join(["clauses", *names[:40], *rows, "end"]))
        self.wrong(442, read_clauses, "\n".join(full[:-1]))

    def test_very_long_texts(self):
        long = 10 ** 6
        self.wrong(2, read_clauses, "clauses\nname a " + "0" * long + "\nend")
        self.wrong(3, read_clauses, "clauses\nname a 1\nrow +" + "a" * long + " +a\nend")
        self.wrong(3, read_clauses, "clauses\nname a 1\n" + "row +a +a " * long)

    def test_no_strings(self):
        for value in NO_STRINGS:
            self.wrong(0, read_clauses, value)


if __name__ == "__main__":
    unittest.main()
