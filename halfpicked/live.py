"""Live webs, which change step by step."""

from halfpicked.errors import BadDeed, NoUndo
from halfpicked.halves import answer, worth
from halfpicked.kernel import kernel

DEED_SIZES = {"price": 3, "tie": 3, "cut": 3, "add": 3, "drop": 2, "undo": 1, "moved": 1}


class Mark:
    """What a live web was like when a `with` block began, and the mark of the block around it."""

    def __init__(self, webs, known, outer):
        self.webs = webs
        self.known = known
        self.outer = outer


class Live:
    """A web that changes step by step."""

    def __init__(self, web):
        # The last web is the present one, and each web but the first came by one step.
        self._webs = [web]
        self._known = kernel(web)
        self._mark = None

    @property
    def web(self):
        """The present web."""
        return self._webs[-1]

    def become(self, web):
        """Replaces the present web as one step."""
        self._webs.append(web)

    def __getitem__(self, place):
        return self._webs[-1].price(place)

    def __setitem__(self, place, price):
        self._webs.append(self._webs[-1].with_price(place, price))

    def __iter__(self):
        raise TypeError("a live web is not iterable")

    def worth(self):
        """The worth of the present web."""
        return worth(self.web)

    def answer(self):
        """A best answer of the present web."""
        return answer(self.web)

    def kernel(self):
        """The kernel of the present web."""
        return kernel(self.web)

    def tie(self, a, b):
        """Adds a tie as one step."""
        self.become(self.web.with_tie(a, b))

    def cut(self, a, b):
        """Removes a tie as one step."""
        self.become(self.web.without_tie(a, b))

    def add(self, place, *, price=1):
        """Adds a place without ties as one step."""
        self.become(self.web.with_place(place, price=price))

    def drop(self, place):
        """Removes a place and its ties as one step."""
        self.become(self.web.without_place(place))

    def undo(self):
        """Takes back the last step."""
        if len(self._webs) == 1:
            raise NoUndo()
        self._webs.pop()

    def moved(self):
        """The places that came into the kernel or left it since the last call, in ascending order."""
        before = self._known
        self._known = kernel(self.web)
        return sorted(set(before) ^ set(self._known))

    def __enter__(self):
        self._mark = Mark(list(self._webs), self._known, self._mark)
        return self

    def __exit__(self, kind, value, trace):
        self._webs = self._mark.webs
        self._known = self._mark.known
        self._mark = self._mark.outer


def trial(live, deeds):
    """The worth after these deeds, which are taken back."""
    wrong = _deed_fault(deeds)
    if wrong is not None:
        raise BadDeed(wrong)
    with live:
        for deed in deeds:
            _do(live, deed)
        return live.worth()


def _do(live, deed):
    """Does the deed."""
    word, *parts = deed
    if word == "price":
        live[parts[0]] = parts[1]
    elif word == "tie":
        live.tie(parts[0], parts[1])
    elif word == "cut":
        live.cut(parts[0], parts[1])
    elif word == "add":
        live.add(parts[0], price=parts[1])
    elif word == "drop":
        live.drop(parts[0])
    elif word == "undo":
        live.undo()
    else:
        live.moved()


def _is_deed(value):
    """True for a tuple of a deed's word and the right number of parts."""
    if not isinstance(value, tuple) or not value or not isinstance(value[0], str):
        return False
    return value[0] in DEED_SIZES and len(value) == DEED_SIZES[value[0]]


def _deed_fault(deeds):
    """The index of the first wrong deed, -1 if it is no list, None if all is well."""
    if not isinstance(deeds, list):
        return -1
    for index, deed in enumerate(deeds):
        if not _is_deed(deed):
            return index
    return None
