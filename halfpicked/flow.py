"""Greatest flows in networks of numbered nodes."""


class Flow:
    """A network and a flow in it.

    Arcs stand in pairs: an arc with an even number, and its way back with the next number.
    What flows on an arc is the room of its way back.
    """

    def __init__(self, size):
        self._heads = []
        self._rooms = []
        self._leaving = [[] for _ in range(size)]

    def link(self, tail, head, room):
        """Adds an arc with this room and returns its number."""
        arc = len(self._heads)
        self._heads.append(head)
        self._rooms.append(room)
        self._leaving[tail].append(arc)
        self._heads.append(tail)
        self._rooms.append(0)
        self._leaving[head].append(arc + 1)
        return arc

    def sent(self, arc):
        """What flows on the arc with this number."""
        return self._rooms[arc + 1]

    def fill(self, source, sink):
        """Makes the flow from the source to the sink a greatest one, and returns what was added."""
        total = 0
        levels = self._levels([source])
        while levels[sink] >= 0:
            total += self._fill_shortest(levels, source, sink)
            levels = self._levels([source])
        return total

    def reach(self, starts):
        """For each node, whether arcs that still have room lead to it from one of these nodes."""
        return [level >= 0 for level in self._levels(starts)]

    def _levels(self, starts):
        """For each node, the least number of arcs with room that lead to it, or -1."""
        levels = [-1] * len(self._leaving)
        for node in starts:
            levels[node] = 0
        border = starts
        while border:
            found = []
            for node in border:
                for arc in self._leaving[node]:
                    head = self._heads[arc]
                    if self._rooms[arc] > 0 and levels[head] < 0:
                        levels[head] = levels[node] + 1
                        found.append(head)
            border = found
        return levels

    def _fill_shortest(self, levels, source, sink):
        """Fills up all paths that climb one level with each arc, and returns what was added."""
        total = 0
        # An arc that led nowhere leads nowhere until the levels change, so none is tried twice.
        tried = [0] * len(levels)
        path = self._path(levels, tried, source, sink)
        while path:
            amount = min([self._rooms[arc] for arc in path])
            for arc in path:
                self._rooms[arc] -= amount
                self._rooms[arc ^ 1] += amount
            total += amount
            path = self._path(levels, tried, source, sink)
        return total

    def _path(self, levels, tried, source, sink):
        """The arcs of a path that climbs to the sink, or an empty list."""
        path = []
        node = source
        while node != sink:
            arc = self._climb(levels, tried, node)
            if arc is not None:
                path.append(arc)
                node = self._heads[arc]
            elif path:
                node = self._heads[path.pop() ^ 1]
                tried[node] += 1
            else:
                return []
        return path

    def _climb(self, levels, tried, node):
        """The next arc of the node that has room and leads one level up, or None."""
        leaving = self._leaving[node]
        while tried[node] < len(leaving):
            arc = leaving[tried[node]]
            if self._rooms[arc] > 0 and levels[self._heads[arc]] == levels[node] + 1:
                return arc
            tried[node] += 1
        return None
