"""Facts, choices, costs and trees read as promises [5] and [73] say it, without the help of the package."""

from fractions import Fraction

from listing import counts_listed, least, some_schemes
from seenchoices.schemes import Scheme

KNOWN_COUNTS = {}


def small_scheme():
    return Scheme(["indel", "swap"], add="indel", drop="indel", swap="swap")


def counts_between(scheme, one, other):
    """The minimal counts of two words, from the list of all edit rows."""
    key = (scheme.costs, scheme.cost_to_add, scheme.cost_to_drop, scheme.cost_to_swap, scheme.groups,
           scheme.cost_to_turn, one, other)
    if key not in KNOWN_COUNTS:
        KNOWN_COUNTS[key] = least(counts_listed(scheme, one, other))
    return KNOWN_COUNTS[key]


def worth(scheme, numbers, costs):
    """The sum of each number times its cost."""
    return sum(number * costs[name] for number, name in zip(numbers, scheme.costs))


def far(scheme, one, target, costs):
    """The distance from a word to a target."""
    return min(worth(scheme, counts, costs) for counts in counts_between(scheme, one, target))


def is_so(difference, strict):
    return difference > 0 or (difference == 0 and not strict)


def fact_is_true(scheme, fact, costs):
    return is_so(worth(scheme, fact[0], costs), fact[1])


def choice_is_true(scheme, choice, costs):
    target, one, other, strict = choice
    return is_so(far(scheme, other, target, costs) - far(scheme, one, target, costs), strict)


def all_true(scheme, facts, choices, costs):
    """True if all facts and choices hold at costs."""
    return (all(fact_is_true(scheme, fact, costs) for fact in facts)
            and all(choice_is_true(scheme, choice, costs) for choice in choices))


def are_costs(scheme, value):
    """True for a dict with an integer from 1 on for each cost, in the order of the scheme."""
    return (value.__class__ is dict and tuple(value) == scheme.costs
            and all(number.__class__ is int and number >= 1 for number in value.values()))


def sum_shows(scheme, facts, choices, terms, way):
    """True if the terms are a sum that cannot be, where the cases on the way were taken."""
    total, strict, seen = [0] * len(scheme.costs), False, []
    for term in terms:
        if term.__class__ is not tuple or term[0].__class__ is not tuple or term[0] in seen or term[1] < 1:
            return False
        seen.append(term[0])
        if term[0][0] == "fact":
            numbers, is_strict = facts[term[0][1]]
        else:
            _, index, counts = term[0]
            target, _, other, is_strict = choices[index]
            if index not in way or counts.__class__ is not tuple or counts not in counts_between(scheme, other, target):
                return False
            numbers = [more - less for more, less in zip(counts, way[index])]
        total = [number + term[1] * more for number, more in zip(total, numbers)]
        strict = strict or is_strict
    return bool(seen) and max(total) <= 0 and (min(total) < 0 or strict)


def tree_shows(scheme, facts, choices, rows):
    """True if rows of the right kinds are a tree for facts and choices."""
    if rows.__class__ is not list or any(row.__class__ is not tuple for row in rows):
        return False
    named = []

    def shows_from(at, way):
        if rows[at][0] == "sum":
            return rows[at][1].__class__ is list and sum_shows(scheme, facts, choices, rows[at][1], way)
        _, index, children = rows[at]
        target, one, _, _ = choices[index]
        firsts = counts_between(scheme, one, target)
        if index in way or children.__class__ is not tuple or len(children) != len(firsts):
            return False
        named.extend(children)
        return all(child > at and shows_from(child, {**way, index: counts})
                   for child, counts in zip(children, firsts))

    return shows_from(0, {}) and sorted(named) == list(range(1, len(rows)))


def check_answer(test, scheme, facts, choices, answer):
    """Test costs or a tree against what they have to show; return which of the two it is."""
    test.assertEqual([answer.__class__, len(answer)], [tuple, 2])
    if answer[0] == "costs":
        test.assertTrue(are_costs(scheme, answer[1]), answer)
        test.assertTrue(all_true(scheme, facts, choices, answer[1]), (facts, choices, answer))
    else:
        test.assertEqual(answer[0], "tree")
        test.assertTrue(tree_shows(scheme, facts, choices, answer[1]), (facts, choices, answer))
    return answer[0]


def decisive_costs(scheme, facts, pairs):
    """For one or two costs: costs such that whatever can happen to facts and distances happens at some of them."""
    if len(scheme.costs) == 1:
        return [{scheme.costs[0]: 1}]
    rows = [numbers for numbers, _ in facts]
    found = [counts for one, target in pairs for counts in counts_between(scheme, one, target)]
    rows += [(a - c, b - d) for a, b in found for c, d in found]
    quotients = sorted({Fraction(-b, a) for a, b in rows if a * b < 0})
    between = [(low + high) / 2 for low, high in zip(quotients, quotients[1:])]
    ends = [quotients[0] / 2, quotients[-1] + 1] if quotients else [Fraction(1)]
    return [dict(zip(scheme.costs, (quotient.numerator, quotient.denominator)))
            for quotient in quotients + between + ends]


def true_costs(scheme, facts, choices, pairs):
    """Those of the decisive costs at which all facts and choices hold."""
    pairs = pairs + [(word, choice[0]) for choice in choices for word in choice[1:3]]
    return [costs for costs in decisive_costs(scheme, facts, pairs) if all_true(scheme, facts, choices, costs)]


def choices_for(target, one, relation, other):
    """The choices that promise [82] names for a relation."""
    return {
        "nearer": [(target, one, other, True)],
        "farther": [(target, other, one, True)],
        "same": [(target, one, other, False), (target, other, one, False)],
    }[relation]


def drawn_word(source, letters, longest=4):
    return "".join(source.choice(letters) for _ in range(source.randint(0, longest)))


def drawn_words(source, letters, many):
    """One to many different words."""
    found = []
    for _ in range(many):
        word = drawn_word(source, letters)
        if word not in found:
            found.append(word)
    return found


def drawn_facts(source, scheme, many):
    size = source.choice((1, 3, 100))
    return [(tuple(source.randint(-size, size) for _ in scheme.costs), source.random() < 0.4)
            for _ in range(source.randint(0, many))]


def drawn_choices(source, letters, many):
    return [(drawn_word(source, letters), drawn_word(source, letters), drawn_word(source, letters),
             source.random() < 0.4) for _ in range(source.randint(0, many))]


def more_schemes():
    """The schemes of the listing, and others of two costs."""
    return some_schemes() + [
        Scheme(["a", "d"], add="a", drop="d", swap="d"),
        Scheme(["e", "t"], add="e", drop="e", swap="e", groups=[("ab", "t")], turn="t"),
    ]
