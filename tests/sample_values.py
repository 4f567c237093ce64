"""Values of every kind, for tests of what is said about any value."""

from seenchoices.schemes import Scheme

FACT = ((2, -1), True)
CHOICE = ("horse", "hose", "house", False)


def plain_scheme():
    return Scheme(["edit", "near", "turn"], add="edit", drop="edit", swap="edit",
                  groups=[("ae", "near")], turn="turn")


def any_values():
    """A new list of values of every kind; none of them is equal to a letter, a name or a word."""
    return [
        None, True, False, 0, 1, -1, 7, 10 ** 29, -10 ** 29, 97,
        " ", "\n", "A", "a b", "a\n", "\na", " a", "a ", "a1", "1", "a-b", "`", "{", "@", "[", "~",
        "Seven", "sevenS", "edit " * 20, "a" * 9, "abcdefghi", "a" * 100,
        [], (), {}, [None], (1, 2), ["a"], ("a",), ["edit"], ("edit",), [["edit"]], {"edit": 1}, {1: "edit"},
        {"edit": {"edit": [1, (2,)]}}, [[[[[[]]]]]], plain_scheme(), [plain_scheme()],
    ]


def raised(wanted, call, *args, **more):
    """The exception of exactly this class that the call raises."""
    try:
        call(*args, **more)
    except wanted as error:
        if error.__class__ is not wanted:
            raise AssertionError(f"{error.__class__.__name__} instead of {wanted.__name__}") from error
        return error
    raise AssertionError(f"nothing was raised instead of {wanted.__name__}")


def wrong_facts():
    """Values of any kind that are no facts about two costs, also if lists stand for tuples."""
    return any_values() + [
        ((1, -1),), ((1, -1), True, True), ((1,), True), ((1, -1, 0), True), ((1, -1), 1), ((1, -1), 0),
        ((1, -1), None), ((1, -1), "True"), ((101, 0), True), ((0, -101), True), ((True, 1), True), ((1, None), True),
        ("ab", True), (1, True), (True, (1, -1)), {0: (1, -1), 1: True}, ({0: 1, 1: 1}, True), [[1, 101], False],
        (((1,), (1,)), True), ((1, "1"), False),
    ]


def wrong_choices():
    """Values of any kind that are no choices, also if a list stands for the tuple."""
    return any_values() + [
        ("a", "b", "c"), ("a", "b", "c", True, True), ("a", "b", "c", 1), ("a", "b", "c", 0), ("a", "b", "c", None),
        ("a", "b", "c", "d"), ("A", "b", "c", True), ("a", "b c", "c", True), ("a", "b", "abcdefg", True),
        (None, "b", "c", True), ("a", ["b"], "c", True), ("a", "b", 7, False), (True, "a", "b", "c"), "abcd",
        ["a", "b", "c", 2], {0: "a", 1: "b", 2: "c", 3: True}, [["a", "b", "c", True]],
    ]
