"""Schemes: which edit has which cost."""

from seenchoices.errors import Duplicate, InvalidCosts, InvalidGroup, InvalidLetter, InvalidName, InvalidPart
from seenchoices.errors import InvalidStep, NotScheme, UnknownCost
from seenchoices.words import is_letter, is_lettered, is_list, is_name, is_whole

MOST_COSTS = 4
STEPS_ALONE = ("keep", "drop", "turn")
STEPS_WITH_LETTER = ("add", "swap")


def check_names(costs):
    """Raise an error unless this is a list of one to four different names."""
    if not is_list(costs) or not 1 <= len(costs) <= MOST_COSTS:
        raise InvalidPart(costs)
    for position, cost in enumerate(costs):
        if not is_name(cost):
            raise InvalidName(cost)
        if cost in costs[:position]:
            raise Duplicate(cost)


def check_cost(names, cost):
    """Raise an error unless a value is one of the names of costs."""
    if not isinstance(cost, str) or cost not in names:
        raise UnknownCost(cost)


def is_group(value):
    """True for a pair whose first item is a string of two or more different letters."""
    if not is_list(value) or len(value) != 2 or not is_lettered(value[0]):
        return False
    return len(value[0]) >= 2 and len(set(value[0])) == len(value[0])


def checked_groups(names, groups):
    """The groups as a tuple of tuples with their letters in ascending order, if they are right."""
    if not is_list(groups):
        raise InvalidPart(groups)
    found = []
    taken = ""
    for group in groups:
        if not is_group(group) or any([letter in taken for letter in group[0]]):
            raise InvalidGroup(group)
        check_cost(names, group[1])
        found.append(("".join(sorted(group[0])), group[1]))
        taken = taken + group[0]
    return tuple(found)


def is_step(value):
    """True for a step of an edit row, whether or not a scheme has turns."""
    if not is_list(value) or not value:
        return False
    if value[0] in STEPS_ALONE:
        return len(value) == 1
    return value[0] in STEPS_WITH_LETTER and len(value) == 2 and is_letter(value[1])


class Scheme:
    """One to four named costs, and which edit has which of them; it never changes."""

    def __init__(self, costs, *, add, drop, swap, groups=(), turn=None):
        check_names(costs)
        for cost in (add, drop, swap):
            check_cost(costs, cost)
        ordered = checked_groups(costs, groups)
        if turn is not None:
            check_cost(costs, turn)
        self._costs = tuple(costs)
        self._add = add
        self._drop = drop
        self._swap = swap
        self._groups = ordered
        self._turn = turn

    @property
    def costs(self):
        """The names of the costs, in their order."""
        return self._costs

    @property
    def cost_to_add(self):
        """The name of the cost of adding a letter."""
        return self._add

    @property
    def cost_to_drop(self):
        """The name of the cost of dropping a letter."""
        return self._drop

    @property
    def cost_to_swap(self):
        """The name of the cost of replacing a letter by one that is not in its group."""
        return self._swap

    @property
    def groups(self):
        """The groups: tuples of letters in ascending order and the name of a cost."""
        return self._groups

    @property
    def cost_to_turn(self):
        """The name of the cost of a turn, or None without turns."""
        return self._turn

    def __len__(self):
        return len(self._costs)

    def __contains__(self, value):
        return isinstance(value, str) and value in self._costs

    def __eq__(self, other):
        return (
            isinstance(other, Scheme)
            and self._costs == other._costs
            and self._add == other._add
            and self._drop == other._drop
            and self._swap == other._swap
            and self._turn == other._turn
            and sorted(self._groups) == sorted(other._groups)
        )

    def swap_cost(self, one, other):
        """The name of the cost of replacing a letter by a different one."""
        for letter in (one, other):
            if not is_letter(letter):
                raise InvalidLetter(letter)
        if one == other:
            raise InvalidLetter(other)
        for letters, cost in self._groups:
            if one in letters and other in letters:
                return cost
        return self._swap

    def step_cost(self, step, letter=None):
        """The name of the cost of a step, None for a kept letter; the next letter matters for swaps only."""
        if not is_step(step) or (step[0] == "turn" and self._turn is None):
            raise InvalidStep(step)
        if step[0] == "swap":
            if not is_letter(letter) or letter == step[1]:
                raise InvalidLetter(letter)
            return self.swap_cost(letter, step[1])
        table = {"keep": None, "add": self._add, "drop": self._drop, "turn": self._turn}
        return table[step[0]]


def check_scheme(value):
    """Raise an error unless a value is a scheme."""
    if not isinstance(value, Scheme):
        raise NotScheme(value)


def is_cost_number(value):
    """True for what a cost may be: an integer from 1 on."""
    return is_whole(value) and value >= 1


def costs_of(scheme, numbers):
    """The costs, a dict, with these integers as the values in the order of the scheme."""
    check_scheme(scheme)
    if not is_list(numbers) or len(numbers) != len(scheme):
        raise InvalidCosts(numbers)
    if not all([is_cost_number(number) for number in numbers]):
        raise InvalidCosts(numbers)
    return dict(zip(scheme.costs, numbers))


def numbers_of(scheme, costs):
    """The tuple of the values of costs, in the order of the scheme."""
    check_scheme(scheme)
    if not isinstance(costs, dict) or len(costs) != len(scheme):
        raise InvalidCosts(costs)
    if not all([name in costs and is_cost_number(costs[name]) for name in scheme.costs]):
        raise InvalidCosts(costs)
    return tuple([costs[name] for name in scheme.costs])


def with_other_cost(scheme, costs, old, new):
    """A scheme with these costs, in which everything that had the old cost has the new one."""
    table = {name: name for name in scheme.costs}
    table[old] = new
    return Scheme(
        costs,
        add=table[scheme.cost_to_add],
        drop=table[scheme.cost_to_drop],
        swap=table[scheme.cost_to_swap],
        groups=[(letters, table[cost]) for letters, cost in scheme.groups],
        # Without turns this is None, which is no name in the table and stays None.
        turn=table.get(scheme.cost_to_turn),
    )


def renamed(scheme, cost, new):
    """A new scheme with another name of a cost."""
    check_scheme(scheme)
    check_cost(scheme.costs, cost)
    if not is_name(new):
        raise InvalidName(new)
    if new != cost and new in scheme:
        raise Duplicate(new)
    costs = [new if name == cost else name for name in scheme.costs]
    return with_other_cost(scheme, costs, cost, new)


def merged(scheme, one, other):
    """A new scheme without the cost other, in the place of which the cost one stands."""
    check_scheme(scheme)
    for cost in (one, other):
        check_cost(scheme.costs, cost)
    if one == other:
        raise Duplicate(other)
    costs = [name for name in scheme.costs if name != other]
    return with_other_cost(scheme, costs, other, one)


def without_turns(scheme):
    """A new scheme with the same costs and groups, and without turns."""
    check_scheme(scheme)
    return Scheme(
        scheme.costs,
        add=scheme.cost_to_add,
        drop=scheme.cost_to_drop,
        swap=scheme.cost_to_swap,
        groups=scheme.groups,
    )


def without_groups(scheme):
    """A new scheme with the same costs and turns, and without groups."""
    check_scheme(scheme)
    return Scheme(
        scheme.costs,
        add=scheme.cost_to_add,
        drop=scheme.cost_to_drop,
        swap=scheme.cost_to_swap,
        turn=scheme.cost_to_turn,
    )
