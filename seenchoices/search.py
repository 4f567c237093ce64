"""The search for a point at which choices hold, or for the cases that show that there is none.

A proof is `("sum", terms)` or `("case", place, proofs)`, as the rows of a tree are, but with the proofs themselves in
the place of their indices.
"""

from seenchoices.corners import UNIT_ROWS, settled, unit_corner

# More cases than two words of six letters can have.
MANY_CASES = 1000


def prices_at(found, point):
    """The prices of counts at a point."""
    w, x, y, z = point
    return [a * w + b * x + c * y + d * z for a, b, c, d in found]


class Comparison:
    """The minimal counts of two words, in four places, the first of which shall be not farther, or nearer if strict.

    The base is the path of the facts alone.
    """

    def __init__(self, firsts, others, strict, base):
        self.firsts = firsts
        self.others = others
        self.strict = 1 if strict else 0
        self.base = base
        self.made = {}
        self.made_least = {}
        self.open_places = None

    def case_rows(self, case):
        """The rows of a case; they are made when they are asked for the first time."""
        if case not in self.made:
            a, b, c, d = self.firsts[case]
            strict = self.strict
            self.made[case] = [(w - a, x - b, y - c, z - d, strict) for w, x, y, z in self.others]
        return self.made[case]

    def least_rows(self, case):
        """The rows that are kept where no other counts of the first word are cheaper than those of a case."""
        if case not in self.made_least:
            a, b, c, d = self.firsts[case]
            others = [counts for counts in self.firsts if counts != self.firsts[case]]
            self.made_least[case] = [(w - a, x - b, y - c, z - d, 0) for w, x, y, z in others]
        return self.made_least[case]

    def open_cases(self):
        """The cases that can go on behind the facts; they are sought when they are asked for the first time."""
        if self.open_places is None:
            cases = range(len(self.firsts))
            paths = [self.base.longer(self.least_rows(case) + self.case_rows(case)) for case in cases]
            self.open_places = [case for case, path in enumerate(paths) if path.amounts is None]
        return self.open_places


class Fork:
    """Comparisons of one word to others, all about the same target.

    They hold at a point if all rows of one of their cases are kept there: then those of the case of the counts that are
    cheapest there are. The place is the index of the choice, if a single comparison stands for it.
    """

    def __init__(self, place, comparisons):
        self.place = place
        self.comparisons = comparisons
        self.firsts = comparisons[0].firsts

    def holds(self, point):
        """True if the comparisons hold at a point."""
        first = min(prices_at(self.firsts, point))
        for comparison in self.comparisons:
            if first + comparison.strict > min(prices_at(comparison.others, point)):
                return False
        return True

    def case_rows(self, case):
        """The rows of a case."""
        return [row for comparison in self.comparisons for row in comparison.case_rows(case)]

    def point_rows(self, case):
        """The rows of a case, and those that are kept where its counts are the cheapest ones of the one word.

        A fork that holds at a point holds there by the case of the cheapest counts. So a point is sought for each case
        just where it is the cheapest, and nearly nothing is searched twice.
        """
        return self.comparisons[0].least_rows(case) + self.case_rows(case)

    def case_sources(self):
        """For each row of a case what it stands for: the index of the choice and counts, in four places."""
        return [("choice", self.place, counts) for comparison in self.comparisons for counts in comparison.others]

    def open_cases(self):
        """The cases that can go on behind the facts for each of the comparisons alone."""
        found = self.comparisons[0].open_cases()
        for comparison in self.comparisons[1:]:
            found = [case for case in found if case in comparison.open_cases()]
        return found


class Path:
    """Rows that all have to be kept, and what each of them stands for (None for the unit rows).

    If they can be kept, point tells where, and amounts is None. Otherwise amounts shows that they cannot.
    """

    def __init__(self, before, rows, sources):
        self.before = before
        self.sources = sources
        self.rows = before.rows + rows if before is not None else rows
        corner = before.corner if before is not None else unit_corner(0)
        self.corner, self.point, self.amounts = settled(self.rows, corner)

    def longer(self, rows, sources=()):
        """A path with more rows, which starts from the corner where this one ended.

        The sources are needed if the proof will be asked for.
        """
        return Path(self, rows, sources)

    def all_sources(self):
        """What each of all rows stands for."""
        if self.before is None:
            return list(self.sources)
        return [*self.before.all_sources(), *self.sources]

    def proof(self):
        """The sum of rows which shows that they cannot be kept."""
        sources = self.all_sources()
        terms = [(sources[index], amount) for index, amount in self.amounts]
        return ("sum", [(source, amount) for source, amount in terms if source is not None])


def first_path():
    """The path of the unit rows alone."""
    return Path(None, list(UNIT_ROWS), [None, None, None, None])


def uses(proof, place):
    """True if a proof uses the case of a choice that was taken before it."""
    if proof[0] == "sum":
        return any([source[0] == "choice" and source[1] == place for source, _ in proof[1]])
    return any([uses(part, place) for part in proof[2]])


def case_paths(path, fork, most):
    """The path of each case of a fork, or None if more than so many of them can go on."""
    found = []
    many = 0
    sources = fork.case_sources()
    for case in range(len(fork.firsts)):
        found.append(path.longer(fork.case_rows(case), sources))
        if found[case].amounts is None:
            many += 1
        if many > most:
            return None
    return found


def narrowest(path, forks):
    """The fork with the fewest cases that can go on behind a path, and the path of each of its cases."""
    best = None
    least = MANY_CASES
    for fork in forks:
        paths = case_paths(path, fork, least - 1)
        if paths is not None:
            best = (fork, paths)
            least = len([longer for longer in paths if longer.amounts is None])
        if least == 0:
            break
    return best


def in_order(paths, prices):
    """The cases in the order in which they are tried: what cannot go on first, then the cheaper ones."""
    return sorted(range(len(paths)), key=lambda at: (paths[at].amounts is None, prices[at]))


class Effort:
    """How many more paths a search may look at."""

    def __init__(self, left):
        self.left = left


def closed(path, forks, effort):
    """A point behind a path at which all forks hold, and None; or None and a proof that there is none.

    If the effort comes to an end before, both are None.
    """
    if path.amounts is not None:
        return (None, path.proof())
    broken = [fork for fork in forks if not fork.holds(path.point)]
    if not broken:
        return (path.point, None)
    effort.left -= 1
    if effort.left < 0:
        return (None, None)
    fork, paths = narrowest(path, broken)
    rest = [other for other in forks if other.place != fork.place]
    proofs = {}
    for case in in_order(paths, prices_at(fork.firsts, path.point)):
        point, proof = closed(paths[case], rest, effort)
        # A proof that does not use the case shows the same for all cases.
        if proof is None or not uses(proof, fork.place):
            return (point, proof)
        proofs[case] = proof
    return (None, ("case", fork.place, [proofs[case] for case in range(len(paths))]))


def reached(path, forks):
    """A point behind a path at which all forks hold, or None: what closed tells without a proof, and sooner."""
    if path.amounts is not None:
        return None
    broken = [fork for fork in forks if not fork.holds(path.point)]
    if not broken:
        return path.point
    many = [len(fork.open_cases()) for fork in broken]
    fork = broken[many.index(min(many))]
    rest = [other for other in forks if other.place != fork.place]
    prices = prices_at(fork.firsts, path.point)
    for case in sorted(fork.open_cases(), key=lambda at: prices[at]):
        point = reached(path.longer(fork.point_rows(case)), rest)
        if point is not None:
            return point
    return None
