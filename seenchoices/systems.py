"""Rows of numbers: positive integers that keep all of them, or a sum of them that shows that there are none."""

from seenchoices.errors import InvalidInteger, InvalidPart, InvalidRow
from seenchoices.schemes import MOST_COSTS, is_cost_number
from seenchoices.words import is_integer, is_list, is_whole, is_whole_list, scaled, weighed


def is_number_row(many, value):
    """True for a row for this many costs."""
    if not is_list(value) or len(value) != 2 or not isinstance(value[1], bool):
        return False
    return is_whole_list(value[0]) and len(value[0]) == many


def check_number_rows(many, rows):
    """Raise an error unless this is a number of costs and a list of rows for it."""
    if not is_integer(many, 1, MOST_COSTS):
        raise InvalidInteger(many)
    if not is_list(rows):
        raise InvalidPart(rows)
    for row in rows:
        if not is_number_row(many, row):
            raise InvalidRow(row)


def is_kept(row, numbers, size):
    """True if these numbers, divided by a size, keep a row; strict rows ask for a sum of 1 or more."""
    return weighed(row[0], numbers) >= (size if row[1] else 0)


def keeps(numbers, row):
    """True if a tuple of integers from 1 on keeps a row."""
    if not is_list(numbers) or not 1 <= len(numbers) <= MOST_COSTS:
        raise InvalidPart(numbers)
    if not all([is_cost_number(number) for number in numbers]):
        raise InvalidPart(numbers)
    if not is_number_row(len(numbers), row):
        raise InvalidRow(row)
    return is_kept(row, numbers, 1)


def unit_columns(many):
    """The tuples of zeros with a single 1, at each place in turn."""
    return [tuple([1 if at == place else 0 for at in range(many)]) for place in range(many)]


def first_not_kept(rows, numbers, size):
    """The index of the first row that these numbers, divided by a size, do not keep, or None."""
    for index, row in enumerate(rows):
        if not is_kept(row, numbers, size):
            return index
    return None


def point_of(rows, tight, columns):
    """The point at which the rows told by their indices are tight, times the size that belongs to the columns."""
    strict = [column for index, column in zip(tight, columns) if rows[index][1]]
    return tuple([sum([column[place] for column in strict]) for place in range(len(columns))])


def leaving_place(tight, weights):
    """The place of the tight row that makes way for another one, or None."""
    found = [(index, place) for place, index in enumerate(tight) if weights[place] > 0]
    return min(found)[1] if found else None


def exchanged(columns, weights, leaving, size):
    """The columns after the exchange of a tight row for the row that has these weights; their size is its weight."""
    weight = weights[leaving]
    found = []
    for place, column in enumerate(columns):
        pairs = list(zip(column, columns[leaving]))
        # The division leaves no rest: what it gives are determinants of numbers of the tight rows.
        changed = [(weight * number - weights[place] * other) // size for number, other in pairs]
        found.append(column if place == leaving else tuple(changed))
    return found


def settle(many, rows):
    """Integers from 1 on that keep all rows, or amounts of the rows that show that there are none.

    The search goes from one point to the next. At each of them as many rows as there are costs are tight: their sum is
    0, or 1 if they are strict. At first these are added rows that ask each integer to be 1 or more. The columns are
    the inverse of the matrix of the tight rows, times its determinant, the size.

    A row that is not kept is a sum of the tight rows, each times its weight. If no weight is greater than 0, the rows
    contradict each other. Otherwise the row takes the place of a tight one with such a weight. Both are the first ones
    by index that are possible (Bland's rule), so no choice of tight rows comes twice, and the search ends.
    """
    check_number_rows(many, rows)
    columns = unit_columns(many)
    known = list(rows) + [(column, True) for column in columns]
    tight = list(range(len(rows), len(known)))
    size = 1
    while True:
        point = point_of(known, tight, columns)
        missed = first_not_kept(known, point, size)
        if missed is None:
            return ("costs", scaled(point))
        weights = [weighed(known[missed][0], column) for column in columns]
        place = leaving_place(tight, weights)
        if place is None:
            amounts = {index: -weight for index, weight in zip(tight, weights)}
            amounts[missed] = size
            return ("sum", scaled(tuple([amounts.get(index, 0) for index in range(len(rows))])))
        columns = exchanged(columns, weights, place, size)
        size = weights[place]
        tight[place] = missed


def summed(many, rows, amounts):
    """The numbers of the sum of all rows, each multiplied by its amount."""
    return [sum([amount * row[0][place] for amount, row in zip(amounts, rows)]) for place in range(many)]


def shows_sum(many, rows, amounts):
    """True if the amounts, any value, are a tuple that shows that no integers from 1 on keep all rows."""
    check_number_rows(many, rows)
    if not isinstance(amounts, tuple) or len(amounts) != len(rows):
        return False
    if not all([is_whole(amount) and amount >= 0 for amount in amounts]):
        return False
    total = summed(many, rows, amounts)
    strict = any([row[1] and amount > 0 for amount, row in zip(amounts, rows)])
    return max(total) <= 0 and (min(total) < 0 or strict)
