"""Values of every kind, for tests of what is said about any value."""

from seenchoices.schemes import Scheme


def plain_scheme():
    return Scheme(["edit", "near", "turn"], add="edit", drop="edit", swap="edit",
                  groups=[("ae", "near")], turn="turn")


def any_values():
    """A new list of values of every kind; none of them is equal to a letter, a name or a word."""
    return [
        None, True, False, 0, 1, -1, 7, 10 ** 29, -10 ** 29, 97,
        " ", "\n", "A", "a b", "a\n", "\na", " a", "a ", "a1", "1", "a-b", "`", "{", "@", "[", "~",
        "Seven", "sevenS", "edit " * 20, "a" * 9, "abcdefghi", "a" * 100,
        [], (), {}, [None], (1, 2), ["a"], ("a",), ["edit"], ("edit",), [["edit"]], {"edit": 1}, {1: "edit"},
        {"edit": {"edit": [1, (2,)]}}, [[[[[[]]]]]], plain_scheme(), [plain_scheme()],
    ]


def raised(wanted, call, *args, **more):
    """The exception of exactly this class that the call raises."""
    try:
        call(*args, **more)
    except wanted as error:
        if error.__class__ is not wanted:
            raise AssertionError(f"{error.__class__.__name__} instead of {wanted.__name__}") from error
        return error
    raise AssertionError(f"nothing was raised instead of {wanted.__name__}")
