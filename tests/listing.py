"""Edit rows read and listed as promise [3] says it, without the help of the package."""

from seenchoices.schemes import Scheme

LETTERS = "abcdefghijklmnopqrstuvwxyz"


def some_schemes():
    """Schemes of one to four costs, with groups and turns and without."""
    return [
        Scheme(["e"], add="e", drop="e", swap="e"),
        Scheme(["indel", "swap"], add="indel", drop="indel", swap="swap"),
        Scheme(["edit", "near", "turn"], add="edit", drop="edit", swap="edit", groups=[("ae", "near")], turn="turn"),
        Scheme(["p", "q", "r", "s"], add="p", drop="q", swap="r", groups=[("ab", "s"), ("cde", "r")], turn="q"),
        Scheme(["e", "unused"], add="e", drop="e", swap="e", groups=[("abc", "e")], turn="e"),
    ]


def is_sign(value):
    return isinstance(value, str) and len(value) == 1 and value in LETTERS


def lead(scheme, word, row):
    """The word to which a row leads, or None if it is no edit row for the word."""
    if not isinstance(row, (list, tuple)):
        return None
    rest, text = word, ""
    for step in row:
        if not isinstance(step, (list, tuple)) or not 1 <= len(step) <= 2:
            return None
        kind = step[0]
        letter = step[1] if len(step) == 2 else None
        if len(step) == 2 and not is_sign(letter):
            return None
        if kind == "keep" and letter is None and rest:
            rest, text = rest[1:], text + rest[0]
        elif kind == "drop" and letter is None and rest:
            rest = rest[1:]
        elif kind == "add" and letter is not None:
            text = text + letter
        elif kind == "swap" and letter is not None and rest and rest[0] != letter:
            rest, text = rest[1:], text + letter
        elif (kind == "turn" and letter is None and scheme.cost_to_turn is not None and len(rest) >= 2
              and rest[0] != rest[1]):
            rest, text = rest[2:], text + rest[1] + rest[0]
        else:
            return None
    return text if rest == "" and len(text) <= 6 else None


def count_steps(scheme, word, row):
    """The counts of an edit row for a word."""
    found = dict.fromkeys(scheme.costs, 0)
    rest = word
    for step in row:
        if step[0] == "add":
            found[scheme.cost_to_add] += 1
            continue
        if step[0] == "drop":
            found[scheme.cost_to_drop] += 1
        if step[0] == "swap":
            groups = [cost for letters, cost in scheme.groups if rest[0] in letters and step[1] in letters]
            found[groups[0] if groups else scheme.cost_to_swap] += 1
        if step[0] == "turn":
            found[scheme.cost_to_turn] += 1
        rest = rest[2:] if step[0] == "turn" else rest[1:]
    return tuple(found[cost] for cost in scheme.costs)


def listed(scheme, one, other):
    """All edit rows, as tuples of tuples, that lead from the one word to the other one."""
    found = [()] if one == other == "" else []
    if one:
        found += [(("drop",), *row) for row in listed(scheme, one[1:], other)]
    if other:
        found += [(("add", other[0]), *row) for row in listed(scheme, one, other[1:])]
    if one and other:
        step = ("keep",) if one[0] == other[0] else ("swap", other[0])
        found += [(step, *row) for row in listed(scheme, one[1:], other[1:])]
    if scheme.cost_to_turn is not None and len(one) >= 2 and one[0] != one[1] and one[1::-1] == other[:2]:
        found += [(("turn",), *row) for row in listed(scheme, one[2:], other[2:])]
    return found


def counts_listed(scheme, one, other):
    """The ascending list of the counts of all edit rows, one for each row."""
    return sorted(count_steps(scheme, one, row) for row in listed(scheme, one, other))


def least(found):
    """Those of the counts for which no others are at most as great in each place, ascending, each once."""
    different = sorted(set(found))
    return [counts for counts in different
            if not any(other != counts and all(a <= b for a, b in zip(other, counts)) for other in different)]


def words_over(letters, longest):
    """All words of these letters up to a length."""
    found = [""]
    for word in found:
        if len(word) < longest:
            found += [word + letter for letter in letters]
    return found


def some_pairs():
    """Pairs of words of 0 to 6 letters with few enough edit rows to list them all."""
    short = words_over("ab", 2)
    pairs = [(one, other) for one in short for other in short]
    return pairs + [
        ("abc", "ca"), ("cab", "abc"), ("aea", "eae"), ("abab", "baba"), ("aab", "bbaa"), ("deed", "cede"),
        ("abcd", "badc"), ("hose", "house"), ("zz", "zzzz"), ("", "abcdef"), ("abcdef", ""), ("a", "bbbabb"),
        ("abcdef", "fe"), ("ae", "eaeaea"), ("xyz", "ddd"), ("halp", "hepls"),
    ]
