"""Counts: how many steps of edit rows have each of the costs.

A set of counts is told as an integer: its bit at the place of some counts is 1 if they are in the set.
"""

from seenchoices.errors import InvalidCounts, InvalidKind
from seenchoices.grids import Steps, number_grid, set_grid, without_common_ends
from seenchoices.rows import check_pair, next_steps
from seenchoices.words import is_list, is_whole

KINDS = ("swap", "near", "far", "turn")
# Between two words are at most 11651 edit rows, which is less than this many bits can tell.
NUMBER_BITS = 14


class Layout:
    """The places of the counts that edit rows between two words can have, in the order of the counts."""

    def __init__(self, scheme, one, other):
        fewer = min(len(one), len(other))
        most = {name: 0 for name in scheme.costs}
        most[scheme.cost_to_add] += len(other)
        most[scheme.cost_to_drop] += len(one)
        for cost in sorted(set([scheme.cost_to_swap, *[cost for _, cost in scheme.groups]])):
            most[cost] += fewer
        if scheme.cost_to_turn is not None:
            most[scheme.cost_to_turn] += fewer // 2
        self.most = list(most.values())
        self.weights = []
        weight = 1
        for number in reversed(self.most):
            self.weights.append(weight)
            weight = weight * (number + 1)
        self.weights.reverse()

    def worth(self, scheme, factor):
        """What each cost is worth: what a step of it adds to the place of counts, times a factor."""
        return {name: factor * weight for name, weight in zip(scheme.costs, self.weights)}

    def place_of(self, counts):
        """The place of counts, or None if no edit row between the words has them."""
        if any([count > number for count, number in zip(counts, self.most)]):
            return None
        return sum([count * weight for count, weight in zip(counts, self.weights)])

    def counts_at(self, place):
        """The counts at a place."""
        found = []
        rest = place
        for weight in self.weights:
            count, rest = divmod(rest, weight)
            found.append(count)
        return tuple(found)

    def runs(self):
        """For each cost, and each number up to its most, the set of the counts with 0 to this number of it alone."""
        found = []
        for weight, number in zip(self.weights, self.most):
            run = 0
            runs = []
            for _ in range(number + 1):
                run = run << weight | 1
                runs.append(run)
            found.append(runs)
        return found


def listed_counts(layout, found):
    """The ascending list of the counts in a set."""
    signs = f"{found:b}"
    signs = signs[::-1]
    counts = []
    place = signs.find("1")
    while place >= 0:
        counts.append(layout.counts_at(place))
        place = signs.find("1", place + 1)
    return counts


def least_counts(layout, found):
    """The ascending list of the minimal ones among the counts in a set."""
    all_runs = layout.runs()
    kept = []
    rest = found
    while rest:
        # The first ones that are left are minimal: those that are at most as great in each place come earlier.
        place = (rest & -rest).bit_length() - 1
        counts = layout.counts_at(place)
        kept.append(counts)
        covered = 1
        for runs, number, count in zip(all_runs, layout.most, counts):
            covered = covered * runs[number - count]
        rest = rest & ~(covered << place)
    return kept


def least_between(scheme, one, other, kind):
    """The ascending list of the minimal ones among the counts of the edit rows without a step of a kind, if any."""
    short_one, short_other = without_common_ends(one, other)
    layout = Layout(scheme, short_one, short_other)
    grid = set_grid(Steps(scheme, short_one, short_other, layout.worth(scheme, 1), kind), False)
    return least_counts(layout, grid[-1][-1])


def all_counts(scheme, one, other):
    """The ascending list of the different counts of all edit rows between two words."""
    check_pair(scheme, one, other)
    layout = Layout(scheme, one, other)
    grid = set_grid(Steps(scheme, one, other, layout.worth(scheme, 1)), True)
    return listed_counts(layout, grid[-1][-1])


def minimal_counts(scheme, one, other):
    """The ascending list of the minimal counts of two words."""
    check_pair(scheme, one, other)
    return least_between(scheme, one, other, None)


def free_counts(scheme, one, other, kind):
    """The ascending list of the minimal ones among the counts of the edit rows without a step of a kind."""
    check_pair(scheme, one, other)
    if kind not in KINDS:
        raise InvalidKind(kind)
    return least_between(scheme, one, other, kind)


def check_counts(scheme, counts):
    """Raise an error unless these are as many integers from 0 on as the scheme has costs."""
    if not is_list(counts) or len(counts) != len(scheme):
        raise InvalidCounts(counts)
    if not all([is_whole(count) and count >= 0 for count in counts]):
        raise InvalidCounts(counts)


def row_at(scheme, steps, grid, one, other, place):
    """The edit row between two words that has the counts at a place, by the first steps that lead there."""
    worth = {"keep": 0, "drop": steps.to_drop, "add": steps.to_add, "turn": steps.to_turn}
    row = []
    at = to = 0
    rest = place
    while at < len(one) or to < len(other):
        for step, after_at, after_to in next_steps(scheme, one, other, at, to):
            if step[0] == "swap":
                worth["swap"] = steps.swaps(len(one) - at)[len(other) - to - 1]
            behind = rest - worth[step[0]]
            if behind >= 0 and grid[len(one) - after_at][len(other) - after_to] >> behind & 1:
                row.append(step)
                at, to, rest = after_at, after_to, behind
                break
    return row


def row_with(scheme, one, other, counts):
    """An edit row between two words that has these counts, or None."""
    check_pair(scheme, one, other)
    check_counts(scheme, counts)
    layout = Layout(scheme, one, other)
    place = layout.place_of(counts)
    steps = Steps(scheme, one, other, layout.worth(scheme, 1))
    grid = set_grid(steps, True)
    if place is None or not grid[-1][-1] >> place & 1:
        return None
    return row_at(scheme, steps, grid, one, other, place)


def numbers_with(scheme, one, other, found):
    """For each of the counts how many edit rows between two words have them."""
    layout = Layout(scheme, one, other)
    grid = number_grid(Steps(scheme, one, other, layout.worth(scheme, NUMBER_BITS)))
    mask = (1 << NUMBER_BITS) - 1
    places = [layout.place_of(counts) for counts in found]
    return [0 if place is None else grid[-1][-1] >> (NUMBER_BITS * place) & mask for place in places]


def rows_with(scheme, one, other, counts):
    """How many edit rows between two words have these counts."""
    check_pair(scheme, one, other)
    check_counts(scheme, counts)
    return numbers_with(scheme, one, other, [counts])[0]
