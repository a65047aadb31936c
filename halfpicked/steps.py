"""Steps between literals: what else is true in a true reading if a literal is."""


def opposite(literal):
    """The literal with the same name and the other flag."""
    name, flag = literal
    return (name, not flag)


class Steps:
    """The steps that the rows of clauses make."""

    def __init__(self, clauses):
        self._heads = {(name, flag): [] for name in clauses.names() for flag in (False, True)}
        for one, two in clauses.rows():
            self._heads[opposite(one)].append(two)
            self._heads[opposite(two)].append(one)

    def literals(self):
        """All literals in ascending order."""
        return list(self._heads)

    def reach(self, start):
        """For each literal that follows from the start, the one before it on a shortest chain."""
        before = {start: None}
        border = [start]
        while border:
            found = []
            for literal in border:
                for head in self._heads[literal]:
                    if head not in before:
                        before[head] = literal
                        found.append(head)
            border = found
        return before

    def chain(self, start, goal):
        """A shortest list of literals with steps from the start to the goal, or None."""
        before = self.reach(start)
        if goal not in before:
            return None
        chain = [goal]
        while chain[-1] != start:
            chain.append(before[chain[-1]])
        return chain[::-1]

    def harmless(self, literal):
        """All that follows from the literal, or None if its opposite is among it.

        If it is not, no two opposites follow: the way back from one of them leads on to the
        opposite of the literal.
        """
        followers = list(self.reach(literal))
        return None if opposite(literal) in followers else followers
