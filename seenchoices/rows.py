"""Edit rows: steps that write a word while they read another one."""

from seenchoices.errors import InvalidEdits
from seenchoices.grids import Steps, number_grid
from seenchoices.schemes import check_scheme, is_step
from seenchoices.words import LONGEST_WORD, check_word, is_list

# Where so few letters of two words are left, together, the ends of edit rows are made only once.
FEW_LETTERS = 6


def check_pair(scheme, one, other):
    """Raise an error unless this is a scheme and two words."""
    check_scheme(scheme)
    check_word(one)
    check_word(other)


def met_letters(scheme, word, at, step):
    """The letters of the word that a step meets at a place, or None if it cannot stand there."""
    if not is_step(step):
        return None
    if step[0] == "add":
        return ""
    many = 2 if step[0] == "turn" else 1
    letters = word[at:at + many]
    if len(letters) < many:
        return None
    if step[0] == "turn" and (scheme.cost_to_turn is None or letters[0] == letters[1]):
        return None
    if step[0] == "swap" and step[1] == letters:
        return None
    return letters


def written_letters(step, letters):
    """The letters that a step writes where it meets these letters."""
    if step[0] == "keep":
        return letters
    if step[0] == "drop":
        return ""
    if step[0] == "turn":
        return letters[::-1]
    return step[1]


def traced(scheme, word, row):
    """Each step of an edit row with the letters that it meets and writes, or None if this is no edit row."""
    if not is_list(row):
        return None
    found = []
    at = 0
    many = 0
    for step in row:
        letters = met_letters(scheme, word, at, step)
        if letters is None:
            return None
        wrote = written_letters(step, letters)
        found.append((tuple(step), letters, wrote))
        at += len(letters)
        many += len(wrote)
    if at < len(word) or many > LONGEST_WORD:
        return None
    return found


def checked_trace(scheme, word, row):
    """What traced tells, or an error."""
    check_scheme(scheme)
    check_word(word)
    found = traced(scheme, word, row)
    if found is None:
        raise InvalidEdits(row)
    return found


def is_row(scheme, word, value):
    """True for an edit row for the word that leads to a word."""
    check_scheme(scheme)
    check_word(word)
    return traced(scheme, word, value) is not None


def written(scheme, word, row):
    """The word to which an edit row leads."""
    return "".join([wrote for _, _, wrote in checked_trace(scheme, word, row)])


def counts_of(scheme, word, row):
    """How many steps of an edit row have each of the costs."""
    found = [scheme.step_cost(step, letters) for step, letters, _ in checked_trace(scheme, word, row)]
    return tuple([found.count(cost) for cost in scheme.costs])


def turned_back(scheme, word, row):
    """The edit row that leads from the written word back to the word."""
    found = []
    for step, letters, _ in checked_trace(scheme, word, row):
        back = {"add": ("drop",), "drop": ("add", letters), "swap": ("swap", letters)}
        found.append(back.get(step[0], step))
    return found


def mirrored(scheme, word, row):
    """The edit row for the word that is read from right to left."""
    return [step for step, _, _ in reversed(checked_trace(scheme, word, row))]


def next_steps(scheme, one, other, at, to):
    """Each step that can stand between these places of two words, and the places behind it."""
    found = []
    letter = one[at:at + 1]
    sign = other[to:to + 1]
    if letter and letter == sign:
        found.append((("keep",), at + 1, to + 1))
    if letter:
        found.append((("drop",), at + 1, to))
    if sign:
        found.append((("add", sign), at, to + 1))
    if letter and sign and letter != sign:
        found.append((("swap", sign), at + 1, to + 1))
        letters = one[at:at + 2]
        if scheme.cost_to_turn is not None and len(letters) == 2 and other[to:to + 2] == letters[::-1]:
            found.append((("turn",), at + 2, to + 2))
    return found


def tails_of(scheme, one, other):
    """The ends of all edit rows behind each pair of places of two words where few letters are left."""
    tails = {}
    for at in range(len(one), -1, -1):
        for to in range(len(other), -1, -1):
            if len(one) - at + len(other) - to <= FEW_LETTERS:
                steps = next_steps(scheme, one, other, at, to)
                found = [] if steps else [[]]
                for step, after_at, after_to in reversed(steps):
                    found.extend([[step, *tail] for tail in tails[(after_at, after_to)]])
                tails[(at, to)] = found
    return tails


def rows_between(scheme, one, other):
    """All edit rows that lead from the one word to the other one; a generator."""
    check_pair(scheme, one, other)
    tails = tails_of(scheme, one, other)
    pending = [(0, 0, ())]
    while pending:
        at, to, row = pending.pop()
        if (at, to) in tails:
            for tail in tails[(at, to)]:
                yield [*row, *tail]
        else:
            for step, after_at, after_to in next_steps(scheme, one, other, at, to):
                pending.append((after_at, after_to, (*row, step)))


def row_count(scheme, one, other):
    """How many edit rows lead from the one word to the other one."""
    check_pair(scheme, one, other)
    grid = number_grid(Steps(scheme, one, other, {name: 0 for name in scheme.costs}))
    return grid[-1][-1]
