"""The two sides of names, a left and a right copy of each, with a greatest flow (point 12).

The right copy of a name is its literal with True, the left copy the one with False. The source
feeds the left copies, and the right copies drain into the sink. Each row of two literals leads
from the opposite of either of them to the other one. So a tie, whose row has both places with
True, leads from the left copy of either place to the right copy of the other one. A name is in L
if the source's side of a least cut leaves out its left copy, and in R if it contains its right
copy. Its value is the number of those of the two sets that it is in.
"""

from halfpicked.flow import Flow
from halfpicked.steps import opposite


class Sides:
    """The two sides of some names, filled with a greatest flow."""

    def __init__(self, rows, left, right):
        """The dicts give the left and the right copy of each name its room, in ascending order."""
        self._numbers = {name: at for at, name in enumerate(left)}
        self._source = 2 * len(left)
        self._sink = self._source + 1
        self._flow = Flow(self._source + 2)
        for name in left:
            self._flow.link(self._source, self._node((name, False)), left[name])
            self._flow.link(self._node((name, True)), self._sink, right[name])
        # No flow uses up this room, so a least cut never cuts a row.
        wide = 1 + sum([left[name] for name in left])
        self._arcs = []
        for one, two in rows:
            there = self._flow.link(self._node(opposite(one)), self._node(two), wide)
            back = self._flow.link(self._node(opposite(two)), self._node(one), wide)
            self._arcs.append((there, back))
        self.total = self._flow.fill(self._source, self._sink)

    def answer(self):
        """The values of a least cut."""
        return self._read(self._flow.reach([self._source]))

    def answer_with(self, name, value):
        """The values of a least cut that gives the name the value, or None."""
        starts = [self._source]
        if value < 2:
            starts.append(self._node((name, False)))
        if value > 0:
            starts.append(self._node((name, True)))
        # What is reached is the least part of the source's side that contains the starts.
        # A value 1 with neither copy in it comes with one that has both (swap L and R).
        reached = self._flow.reach(starts)
        if reached[self._sink]:
            return None
        x = self._read(reached)
        return x if x[name] == value else None

    def possible(self):
        """For each name, the list of the values that least cuts give it."""
        return {
            name: [value for value in (0, 1, 2) if self.answer_with(name, value) is not None]
            for name in self._numbers
        }

    def halves(self):
        """The names that are half in every least cut, in ascending order."""
        values = self.possible()
        return [name for name in values if values[name] == [1]]

    def fixed(self):
        """The names that are 0 in every least cut or 2 in every one, with this value."""
        values = self.possible()
        return {name: values[name][0] for name in values if values[name] in ([0], [2])}

    def least(self):
        """The values of a least cut in which just those names are half that are so in each."""
        x = self.answer()
        for name in self._numbers:
            for value in (0, 2):
                other = self.answer_with(name, value)
                if other is not None:
                    x = merged(x, other)
        return x

    def row_flows(self):
        """What flows on the two arcs of each row together, in the order of the rows."""
        return [self._flow.sent(there) + self._flow.sent(back) for there, back in self._arcs]

    def _node(self, literal):
        """The number of the copy."""
        name, flag = literal
        return 2 * self._numbers[name] + (1 if flag else 0)

    def _read(self, reached):
        """The values of the cut whose source's side has been reached."""
        x = {}
        for name in self._numbers:
            in_left = 0 if reached[self._node((name, False))] else 1
            in_right = 1 if reached[self._node((name, True))] else 0
            x[name] = in_left + in_right
        return x


def sides(web):
    """The two sides of the web with its own prices."""
    prices = {place: web.price(place) for place in web.places()}
    return Sides(tie_rows(web), prices, prices)


def half_sides(clauses):
    """The two sides of the names of clauses."""
    prices = {name: clauses.price(name) for name in clauses.names()}
    return Sides(clauses.rows(), prices, prices)


def tie_rows(web):
    """The ties as rows of clauses: one of the two places has to be taken."""
    return [((a, True), (b, True)) for a, b in web.ties()]


def merged(a, b):
    """What is whole in a as in a, the rest as in b."""
    return {name: b[name] if a[name] == 1 else a[name] for name in a}
