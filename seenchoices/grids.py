"""Grids: what all edit rows between the ends of two words tell together, from short ends to long ones.

A grid is a list of lists of integers: at the place `[at][to]` stands what is told of the last `at` letters of the one
word and of the last `to` letters of the other one. A step shifts what is told of the ends behind it by as many bits as
it is worth.
"""


def without_common_ends(one, other):
    """Two words without the letters with which both begin and with which both end.

    For each edit row between the words there is one that keeps these letters and has no more steps of any cost.
    """
    most = min(len(one), len(other))
    first = 0
    while first < most and one[first] == other[first]:
        first += 1
    last = 0
    while last < most - first and one[len(one) - 1 - last] == other[len(other) - 1 - last]:
        last += 1
    return (one[first:len(one) - last], other[first:len(other) - last])


class Steps:
    """What the steps between the ends of two words are worth, for costs that are worth the told numbers.

    Steps of the kind that is left out are worth None, as turns are in a scheme without turns.
    """

    def __init__(self, scheme, one, other, worth, kind=None):
        self.near_swaps = [(letters, worth[cost]) for letters, cost in scheme.groups]
        self.to_add = worth[scheme.cost_to_add]
        self.to_drop = worth[scheme.cost_to_drop]
        self.far_swap = worth[scheme.cost_to_swap]
        self.to_turn = None if kind == "turn" else worth.get(scheme.cost_to_turn)
        self.kind = kind
        self.one = one
        self.backwards = other[::-1]
        # The two letters with which an end of the other word begins, and those that a turn writes.
        self.twos = [other[len(other) - to:][:2] for to in range(len(other) + 1)]
        self.turned = [self.turned_letters(at) for at in range(len(one) + 1)]

    def turned_letters(self, at):
        """The letters that a turn writes at the beginning of the last letters of the one word, or None."""
        letters = self.one[len(self.one) - at:][:2]
        if self.to_turn is None or len(letters) < 2 or letters[0] == letters[1]:
            return None
        return letters[::-1]

    def swaps(self, at):
        """What it is worth to write each letter of the other word, from the last one, in the place of a letter.

        The letter is the first one of the last letters of the one word. To keep it is worth 0.
        """
        letter = self.one[len(self.one) - at]
        group = ""
        near = None
        for letters, worth in self.near_swaps:
            if letter in letters:
                group = letters
                near = None if self.kind in ("swap", "near") else worth
        far = None if self.kind in ("swap", "far") else self.far_swap
        return [0 if sign == letter else near if sign in group else far for sign in self.backwards]


def set_grid(steps, exact):
    """The grid of the sets of what edit rows are worth: the bit n is 1 if the steps of a row are worth n together.

    If it is not exact, a letter that can be kept is kept: other rows are no better then.
    """
    row = [1 << steps.to_add * to for to in range(len(steps.backwards) + 1)]
    grid = [row]
    for at in range(1, len(steps.one) + 1):
        below = row
        swaps = steps.swaps(at)
        turned = steps.turned[at]
        found = below[0] << steps.to_drop
        row = [found]
        for to, swap in enumerate(swaps, start=1):
            if swap == 0 and not exact:
                found = below[to - 1]
            else:
                found = found << steps.to_add | below[to] << steps.to_drop
                if swap is not None:
                    found = found | below[to - 1] << swap
                if turned is not None and steps.twos[to] == turned:
                    found = found | grid[at - 2][to - 2] << steps.to_turn
            row.append(found)
        grid.append(row)
    return grid


def number_grid(steps):
    """The grid of sums: each edit row between two ends adds 1, shifted by what its steps are worth together."""
    row = [1 << steps.to_add * to for to in range(len(steps.backwards) + 1)]
    grid = [row]
    for at in range(1, len(steps.one) + 1):
        below = row
        turned = steps.turned[at]
        found = below[0] << steps.to_drop
        row = [found]
        for to, swap in enumerate(steps.swaps(at), start=1):
            found = (found << steps.to_add) + (below[to] << steps.to_drop) + (below[to - 1] << swap)
            if turned is not None and steps.twos[to] == turned:
                found = found + (grid[at - 2][to - 2] << steps.to_turn)
            row.append(found)
        grid.append(row)
    return grid
