"""The exceptions of the package: three bases, and one class for each kind of failure.

The messages are fixed texts: a value that was passed may be too large to be shown.
"""


class ChoiceError(ValueError):
    """An argument is invalid."""


class MissingError(KeyError):
    """A name is unknown."""


class StateError(LookupError):
    """An operation is not possible."""


class InvalidPart(ChoiceError):
    """A list or a tuple, or what stands in its place, is not of the kind asked for."""

    def __init__(self, value):
        super().__init__("not a list or tuple of the kind asked for")
        self.value = value


class InvalidInteger(ChoiceError):
    """A value is not an integer within its limits."""

    def __init__(self, value):
        super().__init__("not an integer within the limits")
        self.value = value


class InvalidWord(ChoiceError):
    """A value is not a word."""

    def __init__(self, value):
        super().__init__("not a word of 0 to 6 letters from a to z")
        self.value = value


class InvalidName(ChoiceError):
    """A value is not a name."""

    def __init__(self, value):
        super().__init__("not a name of 1 to 8 letters from a to z")
        self.value = value


class InvalidLetter(ChoiceError):
    """A value is not a letter, or is one that cannot stand in its place."""

    def __init__(self, value):
        super().__init__("not a letter from a to z that can stand here")
        self.value = value


class InvalidGroup(ChoiceError):
    """A value is not a group of letters with its cost."""

    def __init__(self, value):
        super().__init__("not a group of letters of its own with a cost")
        self.value = value


class Duplicate(ChoiceError):
    """Something stands twice that may stand only once."""

    def __init__(self, label):
        super().__init__("this stands twice")
        self.label = label


class NotScheme(ChoiceError):
    """A value is not a scheme."""

    def __init__(self, value):
        super().__init__("not a scheme")
        self.value = value


class NotList(ChoiceError):
    """A value is not a word list."""

    def __init__(self, value):
        super().__init__("not a word list")
        self.value = value


class InvalidStep(ChoiceError):
    """A value is not a step of an edit row under the scheme."""

    def __init__(self, value):
        super().__init__("not a step of an edit row under this scheme")
        self.value = value


class InvalidEdits(ChoiceError):
    """A value is not an edit row for the word."""

    def __init__(self, value):
        super().__init__("not an edit row for this word")
        self.value = value


class InvalidCosts(ChoiceError):
    """A value does not tell the costs of the scheme."""

    def __init__(self, value):
        super().__init__("not the costs of this scheme")
        self.value = value


class InvalidRow(ChoiceError):
    """A value is not a row of numbers."""

    def __init__(self, value):
        super().__init__("not a row for so many costs")
        self.value = value


class InvalidCounts(ChoiceError):
    """A value does not tell counts for the costs of the scheme."""

    def __init__(self, value):
        super().__init__("not counts for the costs of this scheme")
        self.value = value


class InvalidKind(ChoiceError):
    """A value is not a kind of steps."""

    def __init__(self, value):
        super().__init__("not a kind of steps")
        self.value = value


class InvalidOrder(ChoiceError):
    """A value is not an order of the words of the word list."""

    def __init__(self, value):
        super().__init__("not an order of these words")
        self.value = value


class UnlikeCosts(ChoiceError):
    """A scheme does not have the costs of the other one in the same order."""

    def __init__(self, value):
        super().__init__("not the same costs in the same order")
        self.value = value


class InvalidFact(ChoiceError):
    """A value is not a fact about the scheme."""

    def __init__(self, value):
        super().__init__("not a fact about this scheme")
        self.value = value


class InvalidChoice(ChoiceError):
    """A value is not a choice."""

    def __init__(self, value):
        super().__init__("not a choice")
        self.value = value


class InvalidRelation(ChoiceError):
    """A value is not a relation."""

    def __init__(self, value):
        super().__init__("not a relation of two words")
        self.value = value


class InvalidText(ChoiceError):
    """A value is not a text of the kind asked for."""

    def __init__(self, value):
        super().__init__("not a text of the kind asked for")
        self.value = value


class InvalidLine(ChoiceError):
    """A line of a text does not have its form."""

    def __init__(self, index):
        super().__init__("a line does not have its form")
        self.index = index


class InvalidCommand(ChoiceError):
    """A value is not a command that can be performed here."""

    def __init__(self, value):
        super().__init__("not a command that can be performed here")
        self.value = value


class UnknownCost(MissingError):
    """A value is not the name of a cost."""

    def __init__(self, label):
        super().__init__("no cost has this name")
        self.label = label


class UnknownWord(MissingError):
    """A value is not one of the words."""

    def __init__(self, label):
        super().__init__("not one of the words")
        self.label = label


class UnknownIndex(MissingError):
    """Nothing has this index."""

    def __init__(self, index):
        super().__init__("nothing has this index")
        self.index = index


class TooMany(StateError):
    """There would be more than the greatest number allowed."""

    def __init__(self, most):
        super().__init__("more than allowed")
        self.most = most


class NotPossible(StateError):
    """Facts and choices cannot hold together."""

    def __init__(self, parts):
        super().__init__("facts and choices cannot hold together")
        self.parts = parts


class NothingToUndo(StateError):
    """There is no change to take back or to perform again."""

    def __init__(self):
        super().__init__()
