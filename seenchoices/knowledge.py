"""What is known of the costs of a scheme: facts and choices, made ready to be asked about."""

from seenchoices.corners import in_four, row_in_four
from seenchoices.counts import minimal_counts
from seenchoices.schemes import costs_of
from seenchoices.search import Comparison, Effort, Fork, closed, first_path, prices_at, reached
from seenchoices.trees import tree_of
from seenchoices.words import scaled

# At how many paths a search looks before another way is taken, and if there is no other way.
SOME_PATHS = 300
ALL_PATHS = 1000000000


def is_kept_at(row, point):
    """True if a row in four places is kept at a point."""
    a, b, c, d, strict = row
    w, x, y, z = point
    return a * w + b * x + c * y + d * z >= strict


def all_hold_at(rows, forks, point):
    """True if rows in four places are kept and forks hold at a point."""
    return all([is_kept_at(row, point) for row in rows]) and all([fork.holds(point) for fork in forks])


def parts_of(proof):
    """The facts and choices that the sums of a proof of the search use, as tuples of a word and an index."""
    if proof[0] == "sum":
        return [source[:2] for source, _ in proof[1]]
    return [part for other in proof[2] for part in parts_of(other)]


class Knowledge:
    """Facts and choices, which were checked, under a scheme.

    The points at which they hold that were found so far are kept: they may answer later questions at once.
    """

    def __init__(self, scheme, facts, choices):
        self.costs_in = scheme
        self.many = len(scheme)
        self.known_counts = {}
        self.comparisons = {}
        self.points = []
        self.known_facts = facts
        self.known_choices = choices
        self.fact_rows = [row_in_four(numbers, strict) for numbers, strict in facts]
        self.fact_path = first_path().longer(self.fact_rows, [("fact", index) for index in range(len(facts))])
        self.known_forks = self.joined_forks(choices, 0)

    def counts(self, one, other):
        """The minimal counts of two words, in four places."""
        if (one, other) not in self.known_counts:
            found = minimal_counts(self.costs_in, one, other)
            self.known_counts[(one, other)] = [in_four(counts) for counts in found]
        return self.known_counts[(one, other)]

    def distance_at(self, word, target, point):
        """The distance from a word to a target at a point."""
        return min(prices_at(self.counts(word, target), point))

    def comparison(self, choice):
        """The comparison that a choice is."""
        key = tuple(choice)
        if key not in self.comparisons:
            target, one, other, strict = choice
            firsts = self.counts(one, target)
            self.comparisons[key] = Comparison(firsts, self.counts(other, target), strict, self.fact_path)
        return self.comparisons[key]

    def joined_forks(self, choices, place):
        """Forks that hold where the choices hold, a single one for all choices with the same target and one word.

        They are enough where no tree is asked for, in which each choice has a case of its own. The first one has this
        place.
        """
        joined = {}
        for choice in choices:
            joined.setdefault((choice[0], choice[1]), []).append(self.comparison(choice))
        return [Fork(place + at, comparisons) for at, comparisons in enumerate(joined.values())]

    def new_point(self, facts, choices):
        """A point at which everything that is known holds, with more facts and choices, or None."""
        path = self.fact_path
        if facts:
            path = path.longer([row_in_four(numbers, strict) for numbers, strict in facts])
        return reached(path, self.known_forks + self.joined_forks(choices, len(self.known_forks)))

    def point_with(self, facts, choices):
        """What new_point tells, if no point that was found before does."""
        rows = [row_in_four(numbers, strict) for numbers, strict in facts]
        forks = self.joined_forks(choices, 0)
        for point in self.points:
            if all_hold_at(rows, forks, point):
                return point
        found = self.new_point(facts, choices)
        if found is not None:
            self.points.append(found)
        return found

    def is_possible(self, facts, choices):
        """True if more facts and choices can hold together with what is known."""
        return self.point_with(facts, choices) is not None

    def costs_at(self, point):
        """The costs, a dict, at a point."""
        return costs_of(self.costs_in, scaled(point[:self.many]))

    def single_forks(self, choices):
        """A fork for each choice."""
        return [Fork(place, [self.comparison(choice)]) for place, choice in enumerate(choices)]

    def answer_with(self, choices):
        """Costs at which more choices hold together with what is known, or a tree that shows that there are none."""
        together = [*self.known_choices, *choices]
        point, proof = closed(self.fact_path, self.single_forks(together), Effort(SOME_PATHS))
        if point is None and proof is None:
            point, proof = Knowledge(self.costs_in, self.known_facts, together).closed_by_parts()
        if proof is None:
            return ("costs", self.costs_at(point))
        return ("tree", tree_of(proof, self.many))

    def closed_by_parts(self):
        """A point at which everything holds, and None; or None and a proof for parts that cannot hold together.

        This is for what the search does not end soon: among few parts it does.
        """
        point = self.new_point((), ())
        if point is not None:
            return (point, None)
        return self.closed_for(self.conflicting_parts(), Effort(ALL_PATHS))

    def closed_for(self, parts, effort):
        """What the search tells of some facts and choices, which are told as parts_of tells them."""
        facts = [index for word, index in parts if word == "fact"]
        path = first_path().longer([self.fact_rows[index] for index in facts], [("fact", index) for index in facts])
        forks = self.single_forks(self.known_choices)
        return closed(path, [forks[index] for word, index in parts if word == "choice"], effort)

    def parts_against(self, parts):
        """Those of the parts that a proof needs which shows that they cannot hold together; None if they can.

        If no proof is found soon, all parts are told.
        """
        point, proof = self.closed_for(parts, Effort(SOME_PATHS))
        if proof is not None:
            return parts_of(proof)
        if point is None:
            facts = [self.known_facts[index] for word, index in parts if word == "fact"]
            choices = [self.known_choices[index] for word, index in parts if word == "choice"]
            point = Knowledge(self.costs_in, facts, choices).new_point((), ())
        return parts if point is None else None

    def conflicting_parts(self):
        """The parts that cannot hold together while any fewer of them can, or None."""
        kept = [("fact", index) for index in range(len(self.known_facts))]
        kept.extend([("choice", index) for index in range(len(self.known_choices))])
        needed = self.parts_against(kept)
        if needed is None:
            return None
        for part in list(kept):
            fewer = [other for other in kept if other != part]
            # What no proof needs is left out without a search: the proof stays right.
            found = self.parts_against(fewer) if part in needed else needed
            if found is not None:
                kept = fewer
                needed = found
        return kept
