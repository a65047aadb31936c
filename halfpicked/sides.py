"""The web with two sides, a left and a right copy of each place, with a greatest flow (point 12).

The source feeds the left copies, and the right copies drain into the sink. Each tie leads from
the left copy of either of its places to the right copy of the other one. A place is in L if the
source's side of a least cut leaves out its left copy, and in R if it contains its right copy.
"""

from halfpicked.flow import Flow


class Sides:
    """The two sides of a web, filled with a greatest flow."""

    def __init__(self, web, left, right):
        """The dicts give the left and the right copy of each place its room."""
        self._places = web.places()
        self._numbers = {place: at for at, place in enumerate(self._places)}
        self._source = 2 * len(self._places)
        self._sink = self._source + 1
        self._flow = Flow(self._source + 2)
        for place in self._places:
            self._flow.link(self._source, self._left(place), left[place])
            self._flow.link(self._right(place), self._sink, right[place])
        # No flow uses up this room, so a least cut never cuts a tie.
        wide = 1 + sum([left[place] for place in self._places])
        self._arcs = {}
        for a, b in web.ties():
            there = self._flow.link(self._left(a), self._right(b), wide)
            back = self._flow.link(self._left(b), self._right(a), wide)
            self._arcs[(a, b)] = (there, back)
        self.total = self._flow.fill(self._source, self._sink)

    def answer(self):
        """The answer of a least cut."""
        return self._read(self._flow.reach([self._source]))

    def answer_with(self, place, value):
        """The answer of a least cut that gives the place the value, or None."""
        starts = [self._source]
        if value < 2:
            starts.append(self._left(place))
        if value > 0:
            starts.append(self._right(place))
        # What is reached is the least part of the source's side that contains the starts.
        # A value 1 with neither copy in it comes with one that has both (swap L and R).
        reached = self._flow.reach(starts)
        if reached[self._sink]:
            return None
        x = self._read(reached)
        return x if x[place] == value else None

    def tie_flows(self):
        """What flows on the two arcs of each tie together."""
        return {tie: self._flow.sent(there) + self._flow.sent(back) for tie, (there, back) in self._arcs.items()}

    def _left(self, place):
        """The node of the left copy."""
        return 2 * self._numbers[place]

    def _right(self, place):
        """The node of the right copy."""
        return 2 * self._numbers[place] + 1

    def _read(self, reached):
        """The answer of the cut whose source's side has been reached."""
        x = {}
        for place in self._places:
            in_left = 0 if reached[self._left(place)] else 1
            in_right = 1 if reached[self._right(place)] else 0
            x[place] = in_left + in_right
        return x


def sides(web):
    """The two sides of the web with its own prices."""
    prices = {place: web.price(place) for place in web.places()}
    return Sides(web, prices, prices)
