"""Orders: the groups in which the words of a list stand, from the nearest ones to a target to the farthest ones.

The places of an order tell for each word of the list, in its order, how many groups come before the one of the word.
"""

from seenchoices.choices import check_known
from seenchoices.errors import InvalidOrder, NotList, UnknownWord
from seenchoices.knowledge import Knowledge
from seenchoices.sure import choices_of
from seenchoices.wordlists import WordList
from seenchoices.words import check_word, is_list


def check_list(words):
    """Raise an error unless a value is a word list."""
    if not isinstance(words, WordList):
        raise NotList(words)


def check_question(words, target, facts, choices):
    """Raise an error unless this is a word list, a target, and facts and choices."""
    check_list(words)
    check_word(target)
    check_known(words.scheme(), facts, choices)


def says_order(words, value):
    """True if a value is an order of words; those of a group may stand in any order."""
    if not is_list(value) or not all([is_list(group) and group for group in value]):
        return False
    found = [word for group in value for word in group]
    return all([isinstance(word, str) for word in found]) and sorted(found) == sorted(words)


def is_order(words, value):
    """True if value, any value, is an order of the words of a word list."""
    check_list(words)
    return says_order(words.words(), value)


def groups_of(words, places):
    """The groups of words that have these places."""
    return [[word for word, place in zip(words, places) if place == group] for group in range(max(places) + 1)]


def order_choices(target, groups):
    """The choices that say an order, the words of whose groups stand in the order of the word list."""
    found = []
    for at, group in enumerate(groups):
        for one, other in zip(group, group[1:]):
            found.append((target, one, other, False))
        if len(group) > 1:
            found.append((target, group[-1], group[0], False))
        if at > 0:
            found.append((target, groups[at - 1][0], group[0], True))
    return found


def places_for(numbers):
    """The places of words at these distances."""
    different = sorted(set(numbers))
    return tuple([different.index(number) for number in numbers])


def relation_of(place, other):
    """The relation of a word with a place to a word with another place."""
    if place == other:
        return "same"
    return "nearer" if place < other else "farther"


def places_with_one_more(places):
    """The places of all orders of one word more, in which the other words have these places."""
    found = []
    for group in range(max(places) + 1):
        found.append((*places, group))
    for group in range(max(places) + 2):
        moved = [place + 1 if place >= group else place for place in places]
        found.append((*moved, group))
    return found


class Ordering:
    """The search for the orders of words that are right for a target at some costs.

    Orders of the first words of the list that were seen at a point need no search.
    """

    def __init__(self, names, target, known):
        self.names = names
        self.target = target
        self.known = known
        self.seen = {}

    def note(self, point):
        """Keep which orders of the first words are right at a point."""
        far = [self.known.distance_at(word, self.target, point) for word in self.names]
        for many in range(1, len(far) + 1):
            self.seen[places_for(far[:many])] = True

    def may_be_right(self, places):
        """False if the last one of the first words cannot have its place for another one of them alone."""
        last = len(places) - 1
        for at in range(last):
            relation = relation_of(places[at], places[last])
            for choice in choices_of(self.target, self.names[at], relation, self.names[last]):
                if not self.known.comparison(choice).open_cases():
                    return False
        return True

    def is_right(self, places):
        """True if the first words can have these places."""
        if places in self.seen:
            return True
        if not self.may_be_right(places):
            return False
        point = self.known.new_point((), order_choices(self.target, groups_of(self.names, places)))
        if point is None:
            return False
        self.note(point)
        return True

    def all_places(self):
        """The places of all orders that are right, ascending."""
        found = [(0,)] if self.is_right((0,)) else []
        for _ in range(1, len(self.names)):
            longer = [more for places in found for more in places_with_one_more(places)]
            found = [places for places in longer if self.is_right(places)]
        return sorted(found)


def right_places(words, target, facts, choices):
    """The places of all orders of a word list that are right at some costs, ascending, if all arguments are right."""
    check_question(words, target, facts, choices)
    return Ordering(words.words(), target, Knowledge(words.scheme(), facts, choices)).all_places()


def orders(words, target, *, facts=(), choices=()):
    """The orders that are right for the target at some costs at which the facts and choices hold; a generator."""
    found = right_places(words, target, facts, choices)
    for places in found:
        yield groups_of(words.words(), places)


def order_list(words, target, *, facts=(), choices=()):
    """The list of the orders; those with fewer groups before the first words of the list come first."""
    return [groups_of(words.words(), places) for places in right_places(words, target, facts, choices)]


def why_order(words, target, order, *, facts=(), choices=()):
    """Costs at which an order is right for the target, or a tree that shows that there are none."""
    check_list(words)
    check_word(target)
    if not says_order(words.words(), order):
        raise InvalidOrder(order)
    check_known(words.scheme(), facts, choices)
    groups = [[word for word in words.words() if word in group] for group in order]
    return Knowledge(words.scheme(), facts, choices).answer_with(order_choices(target, groups))


def ranks(words, target, word, *, facts=(), choices=()):
    """The ascending list of how many words can come before the group of a word."""
    check_list(words)
    check_word(target)
    if word not in words:
        raise UnknownWord(word)
    found = right_places(words, target, facts, choices)
    at = words.words().index(word)
    return sorted(set([len([place for place in places if place < places[at]]) for places in found]))


def sure_order(words, target, *, facts=(), choices=()):
    """For each two words of the list for which just one relation is possible: the one, the relation and the other."""
    found = right_places(words, target, facts, choices)
    names = words.words()
    told = []
    for one in range(len(names)):
        for other in range(one + 1, len(names)):
            possible = sorted(set([relation_of(places[one], places[other]) for places in found]))
            if len(possible) == 1:
                told.append((names[one], possible[0], names[other]))
    return told
