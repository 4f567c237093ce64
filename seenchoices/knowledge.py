"""What is known of the costs of a scheme: facts and choices, made ready to be asked about."""

from seenchoices.corners import in_four, row_in_four
from seenchoices.counts import minimal_counts
from seenchoices.schemes import costs_of
from seenchoices.search import Fork, closed, first_path
from seenchoices.trees import tree_of
from seenchoices.words import scaled


def is_kept_at(row, point):
    """True if a row in four places is kept at a point."""
    a, b, c, d, strict = row
    w, x, y, z = point
    return a * w + b * x + c * y + d * z >= strict


def parts_of(proof):
    """The facts and choices that a proof of the search uses, as tuples of a word and an index."""
    if proof[0] == "sum":
        return [source[:2] for source, _ in proof[1]]
    found = [("choice", proof[1])]
    for part in proof[2]:
        found.extend(parts_of(part))
    return found


class Knowledge:
    """Facts and choices, which were checked, under a scheme.

    The points at which they hold that were found so far are kept: they may answer later questions at once.
    """

    def __init__(self, scheme, facts, choices):
        self.costs_in = scheme
        self.many = len(scheme)
        self.table = {}
        self.points = []
        self.fact_rows = [row_in_four(numbers, strict) for numbers, strict in facts]
        self.fact_path = first_path().longer(self.fact_rows, [("fact", index) for index in range(len(facts))])
        self.forks = self.more_forks(choices, 0)

    def counts(self, one, other):
        """The minimal counts of two words, in four places."""
        if (one, other) not in self.table:
            self.table[(one, other)] = [in_four(counts) for counts in minimal_counts(self.costs_in, one, other)]
        return self.table[(one, other)]

    def more_forks(self, choices, place):
        """The choices as forks, the first of which has this place."""
        found = []
        for target, one, other, strict in choices:
            found.append(Fork(place + len(found), self.counts(one, target), self.counts(other, target), strict))
        return found

    def closed_with(self, facts, choices):
        """What the search tells of everything that is known, of more facts and of more choices."""
        rows = [row_in_four(numbers, strict) for numbers, strict in facts]
        forks = self.more_forks(choices, len(self.forks))
        for point in self.points:
            if all([is_kept_at(row, point) for row in rows]) and all([fork.holds(point) for fork in forks]):
                return (point, None)
        path = self.fact_path
        if rows and path.amounts is None:
            path = path.longer(rows, [("fact", len(self.fact_rows) + index) for index in range(len(rows))])
        point, proof = closed(path, self.forks + forks)
        if point is not None:
            self.points.append(point)
        return (point, proof)

    def is_possible(self, facts, choices):
        """True if more facts and choices can hold together with what is known."""
        return self.closed_with(facts, choices)[0] is not None

    def costs_at(self, point):
        """The costs, a dict, at a point."""
        return costs_of(self.costs_in, scaled(point[:self.many]))

    def answer_with(self, choices):
        """Costs at which more choices hold together with what is known, or a tree that shows that there are none."""
        point, proof = self.closed_with((), choices)
        if proof is None:
            return ("costs", self.costs_at(point))
        return ("tree", tree_of(proof, self.many))

    def proof_of(self, parts):
        """A proof that these facts and choices, told as parts_of tells them, cannot hold together, or None."""
        facts = [index for word, index in parts if word == "fact"]
        path = first_path().longer([self.fact_rows[index] for index in facts], [("fact", index) for index in facts])
        return closed(path, [self.forks[index] for word, index in parts if word == "choice"])[1]

    def conflicting_parts(self):
        """The parts that cannot hold together while any fewer of them can, or None."""
        kept = [("fact", index) for index in range(len(self.fact_rows))]
        kept.extend([("choice", index) for index in range(len(self.forks))])
        proof = self.proof_of(kept)
        if proof is None:
            return None
        for part in list(kept):
            fewer = [other for other in kept if other != part]
            # What the proof does not use is left out without a search: the proof stays right.
            other_proof = self.proof_of(fewer) if part in parts_of(proof) else proof
            if other_proof is not None:
                kept = fewer
                proof = other_proof
        return kept
