"""Facts, choices and schemes as strings, and back."""

from seenchoices.choices import GREATEST, check_choice, check_fact
from seenchoices.errors import InvalidLine, InvalidText
from seenchoices.schemes import MOST_COSTS, Scheme, check_scheme
from seenchoices.words import is_lettered, is_name, is_word

EMPTY = "-"


def word_text(word):
    """A word as it stands in a text."""
    return word if word else EMPTY


def read_word(text):
    """The word with this text, or None."""
    if text == EMPTY:
        return ""
    return text if text and is_word(text) else None


def side_text(scheme, numbers):
    """The terms for those numbers that are greater than 0."""
    terms = []
    for number, name in zip(numbers, scheme.costs):
        if number > 0:
            terms.append(name if number == 1 else f"{number} {name}")
    return " + ".join(terms) if terms else "0"


def fact_line(scheme, fact):
    """The text of a fact that was checked."""
    numbers, strict = fact
    left = side_text(scheme, numbers)
    right = side_text(scheme, [-number for number in numbers])
    return f"{left} > {right}" if strict else f"{left} >= {right}"


def fact_text(scheme, fact):
    """A fact as a string."""
    check_scheme(scheme)
    check_fact(scheme, fact)
    return fact_line(scheme, fact)


def read_number(text):
    """The integer from 0 to 100 that digits tell, or None."""
    return int(text) if text.isdecimal() and int(text) <= GREATEST else None


def read_side(scheme, text):
    """The numbers that the terms of a text tell, or None; what is told in another way than side_text is let pass."""
    found = {name: 0 for name in scheme.costs}
    for term in text.split(" + "):
        parts = term.split(" ")
        number = read_number(parts[0]) if len(parts) == 2 else 1
        if len(parts) > 2 or number is None or parts[-1] not in found:
            return None
        found[parts[-1]] = number
    return [found[name] for name in scheme.costs]


def read_sides(scheme, left, right, strict):
    """The fact with these sides, or None."""
    zeros = [0 for _ in scheme.costs]
    more = zeros if left == "0" else read_side(scheme, left)
    less = zeros if right == "0" else read_side(scheme, right)
    if more is None or less is None:
        return None
    return (tuple([one - other for one, other in zip(more, less)]), strict)


def read_fact(scheme, text):
    """The fact with this text, or None."""
    if not isinstance(text, str):
        return None
    for sign in (" >= ", " > "):
        left, found, right = text.partition(sign)
        fact = read_sides(scheme, left, right, sign == " > ") if found else None
        # What is told in another way than a fact is told has no fact.
        if fact is not None and fact_line(scheme, fact) == text:
            return fact
    return None


def fact_of(scheme, text):
    """The fact with this text."""
    check_scheme(scheme)
    fact = read_fact(scheme, text)
    if fact is None:
        raise InvalidText(text)
    return fact


def choice_text(choice):
    """A choice as a string."""
    check_choice(choice)
    target, one, other, strict = choice
    sign = "<" if strict else "<="
    return f"{word_text(target)}: {word_text(one)} {sign} {word_text(other)}"


def read_choice(text):
    """The choice with this text, or None."""
    if not isinstance(text, str):
        return None
    parts = text.split(" ")
    if len(parts) != 4 or not parts[0].endswith(":") or parts[2] not in ("<", "<="):
        return None
    found = [read_word(part) for part in (parts[0][:-1], parts[1], parts[3])]
    return None if None in found else (*found, parts[2] == "<")


def choice_of(text):
    """The choice with this text."""
    choice = read_choice(text)
    if choice is None:
        raise InvalidText(text)
    return choice


def scheme_text(scheme):
    """A scheme as a string of lines."""
    check_scheme(scheme)
    lines = [" ".join(["costs", *scheme.costs])]
    for word, cost in [("add", scheme.cost_to_add), ("drop", scheme.cost_to_drop), ("swap", scheme.cost_to_swap)]:
        lines.append(f"{word} {cost}")
    for letters, cost in scheme.groups:
        lines.append(f"group {letters} {cost}")
    if scheme.cost_to_turn is not None:
        lines.append(f"turn {scheme.cost_to_turn}")
    return "\n".join(lines)


def is_costs_line(parts):
    """True for the words of a line with one to four names of costs."""
    return parts[0] == "costs" and 1 <= len(parts) - 1 <= MOST_COSTS and all([is_name(part) for part in parts[1:]])


def is_edit_line(parts, word):
    """True for the words of a line with the cost of an edit."""
    return len(parts) == 2 and parts[0] == word and is_name(parts[1])


def is_group_line(parts):
    """True for the words of a line with the letters of a group and their cost."""
    return len(parts) == 3 and parts[0] == "group" and parts[1] != "" and is_lettered(parts[1]) and is_name(parts[2])


def has_form(lines, index):
    """True if the line with this index has its form behind the lines before it, which have theirs."""
    parts = lines[index]
    if index == 0:
        return is_costs_line(parts)
    if index <= 3:
        return is_edit_line(parts, ("add", "drop", "swap")[index - 1])
    if lines[index - 1][0] == "turn":
        return False
    return is_group_line(parts) or is_edit_line(parts, "turn")


def scheme_of(text):
    """The scheme with this text."""
    if not isinstance(text, str):
        raise InvalidText(text)
    lines = [line.split(" ") for line in text.split("\n")]
    for index in range(len(lines)):
        if not has_form(lines, index):
            raise InvalidLine(index)
    if len(lines) < 4:
        raise InvalidLine(len(lines))
    last = lines[-1]
    return Scheme(
        lines[0][1:],
        add=lines[1][1],
        drop=lines[2][1],
        swap=lines[3][1],
        groups=[(parts[1], parts[2]) for parts in lines[4:] if parts[0] == "group"],
        turn=last[1] if last[0] == "turn" else None,
    )
