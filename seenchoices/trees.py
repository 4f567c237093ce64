"""Trees of cases: lists of rows that show that facts and choices cannot all hold."""

from seenchoices.counts import minimal_counts
from seenchoices.systems import shows_sum
from seenchoices.words import is_integer, is_whole


def put_rows(proof, many, rows):
    """Put the rows of a proof of the search behind the rows of a tree for this many costs."""
    at = len(rows)
    rows.append(None)
    if proof[0] == "sum":
        rows[at] = ("sum", [(short_source(source, many), amount) for source, amount in proof[1]])
        return
    children = []
    for part in proof[2]:
        children.append(len(rows))
        put_rows(part, many, rows)
    rows[at] = ("case", proof[1], tuple(children))


def short_source(source, many):
    """A source of the search, with as many counts as there are costs in the place of four."""
    if source[0] == "fact":
        return source
    return (source[0], source[1], source[2][:many])


def tree_of(proof, many):
    """The tree that a proof of the search is."""
    rows = []
    put_rows(proof, many, rows)
    return rows


def is_case_row(ends, way, row):
    """True for the row of a case that was not taken on the way, with integers in the place of its children."""
    if not isinstance(row, tuple) or len(row) != 3 or row[0] != "case":
        return False
    if not is_integer(row[1], 0, len(ends) - 1) or row[1] in way:
        return False
    if not isinstance(row[2], tuple) or len(row[2]) != len(ends[row[1]][0]):
        return False
    return all([is_whole(child) for child in row[2]])


def source_row(facts, ends, way, source):
    """The row of numbers for which a source stands behind the cases on the way, or None."""
    if not isinstance(source, tuple) or not 2 <= len(source) <= 3 or not is_whole(source[1]):
        return None
    if source[0] == "fact" and len(source) == 2 and 0 <= source[1] < len(facts):
        return facts[source[1]]
    if source[0] != "choice" or len(source) == 2 or source[1] not in way:
        return None
    counts = source[2]
    _, others, strict = ends[source[1]]
    if not isinstance(counts, tuple) or not all([is_whole(count) for count in counts]) or counts not in others:
        return None
    return (tuple([count - less for count, less in zip(counts, way[source[1]])]), strict)


def is_term(value):
    """True for a pair of a source and an integer from 1 on; the source may be anything."""
    return isinstance(value, tuple) and len(value) == 2 and is_whole(value[1]) and value[1] >= 1


def is_sum_row(many, facts, ends, way, row):
    """True for a row with a sum that cannot be, behind the cases on the way."""
    if not isinstance(row, tuple) or len(row) != 2 or row[0] != "sum" or not isinstance(row[1], list):
        return False
    if not all([is_term(term) for term in row[1]]):
        return False
    rows = [source_row(facts, ends, way, source) for source, _ in row[1]]
    if None in rows:
        return False
    # Only here it is known that the sources are plain enough for a set.
    if len(set([source for source, _ in row[1]])) < len(rows):
        return False
    return shows_sum(many, rows, tuple([amount for _, amount in row[1]]))


def ends_of(scheme, choices):
    """For each choice a tuple: the minimal counts of its one word and of its other word, and whether it is strict."""
    found = []
    for target, one, other, strict in choices:
        found.append((minimal_counts(scheme, one, target), minimal_counts(scheme, other, target), strict))
    return found


def is_tree(scheme, facts, choices, rows):
    """True if rows, any value, are a tree for facts and choices, which were checked."""
    if not isinstance(rows, list):
        return False
    ends = ends_of(scheme, choices)
    # For each row that was named so far, the counts of the cases that were taken on the way to it.
    ways = {0: {}}
    for at, row in enumerate(rows):
        if at not in ways:
            return False
        way = ways[at]
        if is_case_row(ends, way, row):
            for child, counts in zip(row[2], ends[row[1]][0]):
                if not at < child < len(rows) or child in ways:
                    return False
                ways[child] = {**way, row[1]: counts}
        elif not is_sum_row(len(scheme), facts, ends, way, row):
            return False
    return len(ways) == len(rows)
