"""Objects of all kinds, for parameters that take any object, and what checks share."""

from twinforks.nets import Net
from twinforks.plans import Plan


def deep(many):
    thing = []
    for _ in range(many):
        thing = [thing]
    return thing


def a_function(*rest):
    return None


ANYTHING = [
    None, True, False, 0, 1, -1, 2, 10 ** 30, "", "a", "x", "net", "net\n", [], (), {}, [[]], [()], ([], []), [0], [1, 2],
    (0, 1), [True], [[0, 1]], [None], {"a": 1}, {0: 1}, a_function, len,
    deep(100), ["x", "a", "b", "c"], ("stop", "a"), ("loop",), ("a", [], []), [("a", [], [])], (0,), (None, None),
    Net([], [], []), Plan([], [], []), [Net([], [], [])], "\u00e9", "a" * 9, ["a", "a"], ("a", "b"), [["a", "b"]],
]


def raised(error, work, *things, **named):
    """The error that the work raises, which must be of just this class."""
    try:
        told = work(*things, **named)
    except ValueError as found:
        if found.__class__ is not error:
            raise AssertionError(f"{found!r} instead of {error}") from found
        return found
    raise AssertionError(f"{told!r} instead of {error}")
