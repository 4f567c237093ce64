"""Rows of numbers: positive integers that keep all of them, or a sum of them that shows that there are none."""

from seenchoices.corners import UNIT_ROWS, row_in_four, settled, unit_corner
from seenchoices.errors import InvalidInteger, InvalidPart, InvalidRow
from seenchoices.schemes import MOST_COSTS, is_cost_number
from seenchoices.words import is_integer, is_list, is_whole, is_whole_list, scaled, weighed


def is_number_row(many, value):
    """True for a row for this many costs."""
    if not is_list(value) or len(value) != 2 or not isinstance(value[1], bool):
        return False
    return is_whole_list(value[0]) and len(value[0]) == many


def check_number_rows(many, rows):
    """Raise an error unless this is a number of costs and a list of rows for it."""
    if not is_integer(many, 1, MOST_COSTS):
        raise InvalidInteger(many)
    if not is_list(rows):
        raise InvalidPart(rows)
    for row in rows:
        if not is_number_row(many, row):
            raise InvalidRow(row)


def keeps(numbers, row):
    """True if a tuple of integers from 1 on keeps a row."""
    if not is_list(numbers) or not 1 <= len(numbers) <= MOST_COSTS:
        raise InvalidPart(numbers)
    if not all([is_cost_number(number) for number in numbers]):
        raise InvalidPart(numbers)
    if not is_number_row(len(numbers), row):
        raise InvalidRow(row)
    return weighed(row[0], numbers) >= (1 if row[1] else 0)


def settle(many, rows):
    """Integers from 1 on that keep all rows, or amounts of the rows that show that there are none."""
    check_number_rows(many, rows)
    # The unit rows stand last, so the rows that were passed keep their indices.
    known = [row_in_four(numbers, strict) for numbers, strict in rows] + list(UNIT_ROWS)
    _, point, found = settled(known, unit_corner(len(rows)))
    if found is None:
        return ("costs", scaled(point[:many]))
    amounts = dict(found)
    return ("sum", scaled(tuple([amounts.get(index, 0) for index in range(len(rows))])))


def summed(many, rows, amounts):
    """The numbers of the sum of all rows, each multiplied by its amount."""
    return [sum([amount * row[0][place] for amount, row in zip(amounts, rows)]) for place in range(many)]


def shows_sum(many, rows, amounts):
    """True if the amounts, any value, are a tuple that shows that no integers from 1 on keep all rows."""
    check_number_rows(many, rows)
    if not isinstance(amounts, tuple) or len(amounts) != len(rows):
        return False
    if not all([is_whole(amount) and amount >= 0 for amount in amounts]):
        return False
    total = summed(many, rows, amounts)
    strict = any([row[1] and amount > 0 for amount, row in zip(amounts, rows)])
    return max(total) <= 0 and (min(total) < 0 or strict)
