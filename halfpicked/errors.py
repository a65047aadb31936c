"""All errors that the program raises.

The messages name no values: Python refuses to write out very long integers.
"""


class HalfError(ValueError):
    """The base class of all errors of the program."""


class BadPlaces(HalfError):
    """The place with this index is wrong; -1 stands for the whole tuple."""

    def __init__(self, index):
        super().__init__("the places are not a tuple of 1 to 40 different names")
        self.index = index


class BadTie(HalfError):
    """The tie with this index is wrong; -1 stands for the whole list."""

    def __init__(self, index):
        super().__init__("the ties are not a list of at most 400 different ties of two places")
        self.index = index


class BadPrice(HalfError):
    """The price of this place is wrong; "" stands for the whole dict."""

    def __init__(self, place):
        super().__init__("the prices are not a dict of the places to integers from 1 to 10 ** 30")
        self.place = place


class NoName(HalfError):
    """This is not a name, or not one of the names."""

    def __init__(self, name):
        super().__init__("the value is not a name that may stand here")
        self.name = name


class NoPlace(HalfError):
    """This is not a place of the web."""

    def __init__(self, place):
        super().__init__("the value is not a place of the web")
        self.place = place


class PlaceThere(HalfError):
    """The web has this place already."""

    def __init__(self, place):
        super().__init__("the web has this place already")
        self.place = place


class NoTie(HalfError):
    """These two places are not tied."""

    def __init__(self, pair):
        super().__init__("the two places are not tied")
        self.pair = pair


class TieThere(HalfError):
    """These two places are tied already."""

    def __init__(self, pair):
        super().__init__("the two places are tied already")
        self.pair = pair


class SamePlace(HalfError):
    """This place can't be tied to itself."""

    def __init__(self, place):
        super().__init__("a place can't be tied to itself")
        self.place = place


class CommonPlace(HalfError):
    """Both webs have this place."""

    def __init__(self, place):
        super().__init__("the two webs have a common place")
        self.place = place


class EmptyWeb(HalfError):
    """A web without places is asked for."""


class BadList(HalfError):
    """The argument is not a list."""


class TooMany(HalfError):
    """More than this limit allows."""

    def __init__(self, limit):
        super().__init__("there are more than the limit allows")
        self.limit = limit


class NoAnswer(HalfError):
    """The argument is not an answer of the web."""


class NotBest(HalfError):
    """The answer is not a best one."""


class BadValue(HalfError):
    """This is not the integer 0, 1 or 2."""

    def __init__(self, value):
        super().__init__("the value is not the integer 0, 1 or 2")
        self.value = value


class BadKept(HalfError):
    """The argument is not a dict from places of the web to 0, 1 and 2."""


class NoCover(HalfError):
    """The argument is not a cover of the web."""


class BadNames(HalfError):
    """The name with this index is wrong; -1 stands for the whole tuple."""

    def __init__(self, index):
        super().__init__("the names are not a tuple of 1 to 40 different names")
        self.index = index


class BadRow(HalfError):
    """The row with this index is wrong; -1 stands for the whole list."""

    def __init__(self, index):
        super().__init__("the rows are not a list of at most 400 rows of two literals")
        self.index = index


class BadCost(HalfError):
    """The price of this name is wrong; "" stands for the whole dict."""

    def __init__(self, name):
        super().__init__("the prices are not a dict of the names to integers from 0 to 10 ** 30")
        self.name = name


class NoReading(HalfError):
    """The argument is not a reading, or not a true one where a true one is asked for."""


class NoHalf(HalfError):
    """The argument is not a half reading."""


class NoTruth(HalfError):
    """There is no true reading."""


class BadLiteral(HalfError):
    """The argument is not a literal over the names."""


class BadNumber(HalfError):
    """The argument is not an integer from 1 to 10 ** 30."""


class BadDeed(HalfError):
    """The deed with this index is wrong; -1 stands for the whole list."""

    def __init__(self, index):
        super().__init__("the deeds are not a list of deeds")
        self.index = index


class NoUndo(HalfError):
    """There is no step that can be taken back."""


class NoText(HalfError):
    """This line can't stand at its position; 0 stands for what is not a string."""

    def __init__(self, line):
        super().__init__("the text is not written as required")
        self.line = line
