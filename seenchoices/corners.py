"""Corners: the exact search for four integers from 1 on that keep rows of numbers.

A row is a tuple of four integers and of 1, if it is strict, or 0. Where fewer integers are sought, the places behind
them hold zeros in all rows. The rows among which is searched include the unit rows, one after another.

At a corner four rows are tight: their sums are the size of the corner, if they are strict, or 0. A corner is a tuple of
its columns, of the indices of its tight rows and of its size. The columns are the inverse of the matrix of the tight
rows, times its determinant, which is the size.
"""

UNIT_ROWS = ((1, 0, 0, 0, 1), (0, 1, 0, 0, 1), (0, 0, 1, 0, 1), (0, 0, 0, 1, 1))
UNIT_COLUMNS = ((1, 0, 0, 0), (0, 1, 0, 0), (0, 0, 1, 0), (0, 0, 0, 1))


def in_four(numbers):
    """One to four numbers, with zeros in the places behind them."""
    padded = (*numbers, 0, 0, 0, 0)
    return padded[:4]


def row_in_four(numbers, strict):
    """A row with zeros in the places behind its numbers."""
    return (*in_four(numbers), 1 if strict else 0)


def unit_corner(index):
    """The corner at which just the unit rows are tight, the first of which has this index."""
    return (UNIT_COLUMNS, (index, index + 1, index + 2, index + 3), 1)


def point_of(rows, corner):
    """The four integers for which the tight rows have their sums."""
    columns, tight, _ = corner
    a = b = c = d = 0
    for index, column in zip(tight, columns):
        if rows[index][4]:
            a += column[0]
            b += column[1]
            c += column[2]
            d += column[3]
    return (a, b, c, d)


def first_missed(rows, point, size):
    """The index of the first row that a point at a corner of this size does not keep, or None."""
    w, x, y, z = point
    for index, (a, b, c, d, strict) in enumerate(rows):
        if a * w + b * x + c * y + d * z < strict * size:
            return index
    return None


def weights_of(row, columns):
    """The weights of the tight rows in the sum that a row is, times the size."""
    w, x, y, z, _ = row
    return [a * w + b * x + c * y + d * z for a, b, c, d in columns]


def leaving_place(tight, weights):
    """The place of the tight row that makes way for another one, or None."""
    found = [(index, place) for place, index in enumerate(tight) if weights[place] > 0]
    return min(found)[1] if found else None


def exchanged(corner, missed, weights, leaving):
    """The corner after the exchange of a tight row for the missed row, which has these weights."""
    columns, tight, size = corner
    weight = weights[leaving]
    w, x, y, z = columns[leaving]
    found = []
    for (a, b, c, d), other in zip(columns, weights):
        # The divisions leave no rest: what they give are determinants of numbers of the tight rows.
        found.append((
            (weight * a - other * w) // size,
            (weight * b - other * x) // size,
            (weight * c - other * y) // size,
            (weight * d - other * z) // size,
        ))
    found[leaving] = columns[leaving]
    return (tuple(found), (*tight[:leaving], missed, *tight[leaving + 1:]), weight)


def settled(rows, corner):
    """A corner that keeps all rows, its point and None; or the last corner, None and amounts of rows.

    The amounts are pairs of an index and an integer from 1 on, and show that nothing keeps the rows.

    The search goes from one corner to the next. A row that is not kept is a sum of the tight rows, each times its
    weight. If no weight is greater than 0, the rows contradict each other. Otherwise the row takes the place of a tight
    one with such a weight. Both are the first ones by index that are possible (Bland's rule), so no choice of tight
    rows comes twice, and the search ends.
    """
    while True:
        point = point_of(rows, corner)
        missed = first_missed(rows, point, corner[2])
        if missed is None:
            return (corner, point, None)
        weights = weights_of(rows[missed], corner[0])
        place = leaving_place(corner[1], weights)
        if place is None:
            against = [(index, -weight) for index, weight in zip(corner[1], weights) if weight < 0]
            return (corner, None, [(missed, corner[2]), *against])
        corner = exchanged(corner, missed, weights, place)
