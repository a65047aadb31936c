"""The parts of a web that hang together, and whether they have two sides."""


def parts(web):
    """For each part the distances from its least place, in the order of these least places."""
    seen = {}
    found = []
    for place in web.places():
        if place not in seen:
            distances = _distances(web, place)
            seen.update(distances)
            found.append(distances)
    return found


def level_tie(web, distances):
    """A tie between two places of the part that are equally far from its least place, or None.

    The distances of tied places differ by one at most. So without such a tie each tie joins an
    even and an odd distance, and with one the shortest ways to its places close an odd ring.
    """
    for a, b in web.ties():
        if a in distances and distances[a] == distances[b]:
            return (a, b)
    return None


def _distances(web, root):
    """For each place that ties lead to from the root, the least number of these ties."""
    distances = {root: 0}
    border = [root]
    while border:
        found = []
        for place in border:
            for other in web.near(place):
                if other not in distances:
                    distances[other] = distances[place] + 1
                    found.append(other)
        border = found
    return distances
