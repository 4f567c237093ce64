"""The commands of a session: what a line says, and what it does.

A state is a dict of a scheme, and of tuples of facts, of choices, of words and of the lines that led to it. A state
never changes: a command that changes something makes a new one.
"""

from seenchoices.choices import GREATEST, conflict
from seenchoices.errors import Duplicate, InvalidCommand, NotPossible, TooMany, UnknownIndex, UnknownWord
from seenchoices.knowledge import Knowledge
from seenchoices.orders import order_list
from seenchoices.schemes import merged, renamed
from seenchoices.sure import bounds, relations
from seenchoices.texts import EMPTY, choice_text, fact_text, read_choice, read_fact, read_word, scheme_text, word_text
from seenchoices.wordlists import WordList
from seenchoices.words import MOST_WORDS, is_name

MOST_FACTS = 4
MOST_CHOICES = 3
GREATEST_INDEX = 99


def possible_state(state):
    """The state, or an error if its facts and choices cannot all hold."""
    found = conflict(state["scheme"], state["facts"], state["choices"])
    if found is not None:
        raise NotPossible(found)
    return state


def add_fact(state, fact):
    """The state with one fact more."""
    if len(state["facts"]) >= MOST_FACTS:
        raise TooMany(MOST_FACTS)
    return possible_state({**state, "facts": (*state["facts"], fact)})


def add_choice(state, choice):
    """The state with one choice more."""
    if len(state["choices"]) >= MOST_CHOICES:
        raise TooMany(MOST_CHOICES)
    return possible_state({**state, "choices": (*state["choices"], choice)})


def without_index(parts, index):
    """The parts without the one that has this index."""
    if index >= len(parts):
        raise UnknownIndex(index)
    return (*parts[:index], *parts[index + 1:])


def forget_fact(state, index):
    """The state without a fact."""
    return {**state, "facts": without_index(state["facts"], index)}


def forget_choice(state, index):
    """The state without a choice."""
    return {**state, "choices": without_index(state["choices"], index)}


def add_word(state, word):
    """The state with one word more."""
    if word in state["words"]:
        raise Duplicate(word)
    if len(state["words"]) >= MOST_WORDS:
        raise TooMany(MOST_WORDS)
    return {**state, "words": (*state["words"], word)}


def leave_word(state, word):
    """The state without a word."""
    if word not in state["words"]:
        raise UnknownWord(word)
    return {**state, "words": tuple([other for other in state["words"] if other != word])}


def rename_cost(state, cost, new):
    """The state with another name of a cost."""
    return {**state, "scheme": renamed(state["scheme"], cost, new)}


def merged_fact(fact, first, second):
    """A fact without the number at the second place, which is added to the one at the first place."""
    numbers, strict = fact
    total = numbers[first] + numbers[second]
    if not -GREATEST <= total <= GREATEST:
        raise TooMany(GREATEST)
    changed = [*numbers[:first], total, *numbers[first + 1:]]
    return ((*changed[:second], *changed[second + 1:]), strict)


def merge_costs(state, one, other):
    """The state without the cost other, in the place of which the cost one stands."""
    scheme = merged(state["scheme"], one, other)
    first = state["scheme"].costs.index(one)
    second = state["scheme"].costs.index(other)
    facts = tuple([merged_fact(fact, first, second) for fact in state["facts"]])
    return possible_state({**state, "scheme": scheme, "facts": facts})


def told_scheme(state):
    """The lines of the text of the scheme."""
    return scheme_text(state["scheme"]).split("\n")


def told_facts(state):
    """The texts of the facts."""
    return [fact_text(state["scheme"], fact) for fact in state["facts"]]


def told_choices(state):
    """The texts of the choices."""
    return [choice_text(choice) for choice in state["choices"]]


def told_words(state):
    """The words, as they stand in a text."""
    return [word_text(word) for word in state["words"]]


def told_changes(state):
    """The lines of the changes that are in effect."""
    return list(state["lines"])


def told_relations(state, target, one, other):
    """The relations of two words to a target that are possible."""
    return relations(state["scheme"], target, one, other, facts=state["facts"], choices=state["choices"])


def told_nearest(state, target):
    """The words that can be nearest to a target."""
    if not state["words"]:
        return []
    words = WordList(state["scheme"], state["words"])
    found = words.can_be_nearest(target, facts=state["facts"], choices=state["choices"])
    return [word_text(word) for word in found]


def told_orders(state, target):
    """The orders of the words that are possible, each as a string."""
    if not state["words"]:
        return []
    words = WordList(state["scheme"], state["words"])
    found = order_list(words, target, facts=state["facts"], choices=state["choices"])
    return [" < ".join([" = ".join([word_text(word) for word in group]) for group in order]) for order in found]


def told_costs(state):
    """Costs at which all facts and choices hold, as a string."""
    known = Knowledge(state["scheme"], state["facts"], state["choices"])
    costs = known.costs_at(known.point_with((), ()))
    return [" ".join([f"{name}={number}" for name, number in costs.items()])]


def told_bounds(state, one, other):
    """The bounds of the quotient of two costs, as a string."""
    found = bounds(state["scheme"], one, other, facts=state["facts"], choices=state["choices"])
    return [" ".join([EMPTY if bound is None else str(bound) for bound in found])]


CHANGES = {
    "fact": add_fact, "choice": add_choice, "forget fact": forget_fact, "forget choice": forget_choice,
    "word": add_word, "leave": leave_word, "rename": rename_cost, "merge": merge_costs,
}
QUESTIONS = {
    "show": told_scheme, "facts": told_facts, "choices": told_choices, "words": told_words, "changes": told_changes,
    "relation": told_relations, "nearest": told_nearest, "orders": told_orders, "costs": told_costs,
    "bounds": told_bounds,
}
# The kinds of the words that stand behind the name of a command.
FORMS = {
    "forget fact": ("index",), "forget choice": ("index",), "word": ("word",), "leave": ("word",),
    "rename": ("name", "name"), "merge": ("name", "name"), "show": (), "facts": (), "choices": (), "words": (),
    "changes": (), "relation": ("word", "word", "word"), "nearest": ("word",), "orders": ("word",), "costs": (),
    "bounds": ("name", "name"),
}


def read_index(text):
    """The integer from 0 to 99 with this text, or None."""
    if not text.isdecimal() or len(text) > len(str(GREATEST_INDEX)) or str(int(text)) != text:
        return None
    return int(text)


def read_value(kind, text):
    """What a word of a line tells, if it is of a kind; otherwise None."""
    if kind == "index":
        return read_index(text)
    if kind == "word":
        return read_word(text)
    return text if is_name(text) else None


def read_words(name, words):
    """The name of a command and what the words behind it tell, or None."""
    if name not in FORMS or len(words) != len(FORMS[name]):
        return None
    values = [read_value(kind, text) for kind, text in zip(FORMS[name], words)]
    return None if None in values else (name, *values)


def read_command(scheme, line):
    """The name of a command and the values that a line tells, or None."""
    if not isinstance(line, str):
        return None
    name, _, rest = line.partition(" ")
    if name in ("fact", "choice"):
        value = read_fact(scheme, rest) if name == "fact" else read_choice(rest)
        return None if value is None else (name, value)
    words = line.split(" ")
    if name == "forget":
        return read_words(" ".join(words[:2]), words[2:])
    return read_words(name, words[1:])


def performed(state, line):
    """The state behind a command, and what the command returns."""
    command = read_command(state["scheme"], line)
    if command is None:
        raise InvalidCommand(line)
    name, *values = command
    if name in QUESTIONS:
        answer = QUESTIONS[name]
        return (state, answer(state, *values))
    change = CHANGES[name]
    changed = change(state, *values)
    return ({**changed, "lines": (*state["lines"], line)}, [])
