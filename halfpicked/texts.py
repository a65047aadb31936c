"""Texts of webs, answers and clauses, and their readers."""

from halfpicked.checks import GREATEST_PRICE, MOST_PLACES, MOST_ROWS, MOST_TIES, is_name
from halfpicked.clauses import Clauses
from halfpicked.errors import NoAnswer, NoText
from halfpicked.halves import is_answer
from halfpicked.webs import Web

# No price has more digits than 10 ** 30.
MOST_DIGITS = 31


def web_text(web):
    """The text of the web."""
    places = [f"place {place} {web.price(place)}" for place in web.places()]
    ties = [f"tie {a} {b}" for a, b in web.ties()]
    return _text("web", places + ties)


def read_web(text):
    """The web that has this text."""
    lines = _lines(text, "web")
    prices = _read_prices(lines, "place", 1)
    first = 1 + len(prices)
    ties = []
    for line in lines[first:first + MOST_TIES]:
        tie = _tie(line, prices)
        if tie is None or (ties and tie <= ties[-1]):
            break
        ties.append(tie)
    _need_end(lines, first + len(ties))
    return Web(tuple(prices), ties, prices)


def answer_text(web, x):
    """The text of the answer x."""
    if not is_answer(web, x):
        raise NoAnswer()
    return _text("answer", [f"{place} {x[place]}" for place in web.places()])


def read_answer(web, text):
    """The answer of the web that has this text."""
    lines = _lines(text, "answer")
    x = {}
    for line, place in zip(lines[1:], web.places()):
        if line not in (f"{place} 0", f"{place} 1", f"{place} 2"):
            raise NoText(len(x) + 2)
        x[place] = int(line[-1])
    _need_end(lines, 1 + len(x))
    if not is_answer(web, x):
        raise NoAnswer()
    return x


def clauses_text(clauses):
    """The text of the clauses."""
    names = [f"name {name} {clauses.price(name)}" for name in clauses.names()]
    rows = [f"row {_literal_text(one)} {_literal_text(two)}" for one, two in clauses.rows()]
    return _text("clauses", names + rows)


def read_clauses(text):
    """The clauses that have this text."""
    lines = _lines(text, "clauses")
    prices = _read_prices(lines, "name", 0)
    first = 1 + len(prices)
    rows = []
    for line in lines[first:first + MOST_ROWS]:
        row = _row(line, prices)
        if row is None:
            break
        rows.append(row)
    _need_end(lines, first + len(rows))
    return Clauses(tuple(prices), rows, prices)


def _text(first, lines):
    """The text with this first line and these lines before its end."""
    return "\n".join([first, *lines, "end"])


def _lines(text, first):
    """The lines of a text with this first line."""
    if not isinstance(text, str):
        raise NoText(0)
    lines = text.split("\n")
    if lines[0] != first:
        raise NoText(1)
    return lines


def _need_end(lines, at):
    """Raises an error if the line with this index is not the end, or not the last one."""
    if at >= len(lines) or lines[at] != "end":
        raise NoText(at + 1)
    if at + 1 < len(lines):
        raise NoText(at + 2)


def _read_prices(lines, word, least):
    """The names with their prices, from the second line up to the first line that holds none."""
    prices = {}
    last = ""
    for line in lines[1:1 + MOST_PLACES]:
        words = line.split(" ")
        if len(words) != 3 or words[0] != word or not is_name(words[1]) or words[1] <= last:
            break
        price = _price(words[2])
        if price is None or price < least:
            break
        last = words[1]
        prices[last] = price
    if not prices:
        raise NoText(2)
    return prices


def _price(word):
    """The price that the word writes, or None."""
    # The length goes first: Python does not read very long numbers.
    if not 1 <= len(word) <= MOST_DIGITS or not all(["0" <= sign <= "9" for sign in word]):
        return None
    if word[0] == "0" and len(word) > 1:
        return None
    price = int(word)
    return price if price <= GREATEST_PRICE else None


def _tie(line, names):
    """The tie that the line writes, or None."""
    words = line.split(" ")
    if len(words) != 3 or words[0] != "tie" or words[1] not in names or words[2] not in names:
        return None
    return (words[1], words[2]) if words[1] < words[2] else None


def _row(line, names):
    """The row that the line writes, or None."""
    words = line.split(" ")
    if len(words) != 3 or words[0] != "row" or not _is_literal_text(words[1], names):
        return None
    return (_literal(words[1]), _literal(words[2])) if _is_literal_text(words[2], names) else None


def _is_literal_text(word, names):
    """True for a sign and one of the names."""
    return word[:1] in ("+", "-") and word[1:] in names


def _literal(word):
    """The literal that the word writes."""
    return (word[1:], word[0] == "+")


def _literal_text(literal):
    """The word that writes the literal."""
    name, flag = literal
    return ("+" if flag else "-") + name
