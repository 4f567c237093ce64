"""Counts: how many steps of edit rows have each of the costs."""

from seenchoices.errors import InvalidCounts, InvalidKind
from seenchoices.rows import check_pair, moves, places
from seenchoices.words import is_list, is_whole

KINDS = ("swap", "near", "far", "turn")


def is_in_one_group(scheme, one, other):
    """True if both letters are in one group of the scheme."""
    return any([one in letters and other in letters for letters, _ in scheme.groups])


def is_of_kind(scheme, kind, step, letters):
    """True if a step that meets these letters is of a kind."""
    if kind == "turn" or step[0] != "swap":
        return step[0] == kind
    return kind == "swap" or is_in_one_group(scheme, letters, step[1]) == (kind == "near")


def counted_moves(scheme, one, other, place, kinds):
    """Each step from a pair of places that is of none of the kinds, its counts, and the places behind it."""
    found = []
    for step, letters, wrote in moves(scheme, one, other, place[0], place[1]):
        if not any([is_of_kind(scheme, kind, step, letters) for kind in kinds]):
            cost = scheme.step_cost(step, letters)
            counts = tuple([1 if name == cost else 0 for name in scheme.costs])
            found.append((step, counts, (place[0] + len(letters), place[1] + len(wrote))))
    return found


def counts_from(table, steps):
    """The counts of all rows that begin with one of these steps, each with how many rows have it."""
    found = {}
    for _, counts, after in steps:
        for rest, many in table[after].items():
            total = tuple([count + more for count, more in zip(counts, rest)])
            found[total] = found.get(total, 0) + many
    return found


def count_table(scheme, one, other, kinds=()):
    """For each pair of places the counts of the rows from there on that have no step of these kinds."""
    table = {(len(one), len(other)): {tuple([0 for _ in scheme.costs]): 1}}
    for place in places(one, other)[1:]:
        table[place] = counts_from(table, counted_moves(scheme, one, other, place, kinds))
    return table


def row_numbers(scheme, one, other, kinds=()):
    """The counts of all edit rows that have no step of these kinds, each with how many rows have it."""
    return count_table(scheme, one, other, kinds)[(0, 0)]


def is_covered(counts, kept):
    """True if one of the counts that are kept is at most as great in each place."""
    return any([all([low <= high for low, high in zip(other, counts)]) for other in kept])


def least_of(found):
    """The ascending list of the minimal ones among counts."""
    kept = []
    # What is at most as great in each place comes earlier, so only what is kept already matters.
    for counts in sorted(found):
        if not is_covered(counts, kept):
            kept.append(counts)
    return kept


def all_counts(scheme, one, other):
    """The ascending list of the different counts of all edit rows between two words."""
    check_pair(scheme, one, other)
    return sorted(row_numbers(scheme, one, other))


def minimal_counts(scheme, one, other):
    """The ascending list of the minimal counts of two words."""
    check_pair(scheme, one, other)
    return least_of(row_numbers(scheme, one, other))


def free_counts(scheme, one, other, kind):
    """The ascending list of the minimal ones among the counts of the edit rows without a step of a kind."""
    check_pair(scheme, one, other)
    if kind not in KINDS:
        raise InvalidKind(kind)
    return least_of(row_numbers(scheme, one, other, (kind,)))


def check_counts(scheme, counts):
    """Raise an error unless these are as many integers from 0 on as the scheme has costs."""
    if not is_list(counts) or len(counts) != len(scheme):
        raise InvalidCounts(counts)
    if not all([is_whole(count) and count >= 0 for count in counts]):
        raise InvalidCounts(counts)


def ways_on(table, steps, counts):
    """Those of the steps with which rows with these counts begin, with the counts and the places behind them."""
    found = []
    for step, taken, after in steps:
        rest = tuple([count - less for count, less in zip(counts, taken)])
        if rest in table[after]:
            found.append((step, rest, after))
    return found


def row_with(scheme, one, other, counts):
    """An edit row between two words that has these counts, or None."""
    check_pair(scheme, one, other)
    check_counts(scheme, counts)
    table = count_table(scheme, one, other)
    row = []
    place = (0, 0)
    rest = tuple(counts)
    if rest not in table[place]:
        return None
    while place != (len(one), len(other)):
        steps = counted_moves(scheme, one, other, place, ())
        step, rest, place = ways_on(table, steps, rest)[0]
        row.append(step)
    return row


def rows_with(scheme, one, other, counts):
    """How many edit rows between two words have these counts."""
    check_pair(scheme, one, other)
    check_counts(scheme, counts)
    return row_numbers(scheme, one, other).get(tuple(counts), 0)
