"""Which things, of any kind, are lists, numbers, names; and the errors of what many functions are passed."""

from twinforks.errors import BadEnds, BadMost

KEPT = ("x", "y", "stop", "join", "loop", "use", "part", "net", "to", "shut")
LETTERS = "abcdefghijklmnopqrstuvwxyz"
FIGURES = "0123456789"
NAME_SIGNS = "abcdefghijklmnopqrstuvwxyz0123456789"
LONGEST_NAME = 8


def is_list(thing):
    """Whether it is a list, or a tuple in the place of one."""
    return isinstance(thing, (list, tuple))


def is_pair(thing):
    return is_list(thing) and len(thing) == 2


def is_number(thing):
    return isinstance(thing, int) and not isinstance(thing, bool) and thing >= 0


def begins_name(word):
    """Whether a string, not empty, is a name by its signs, or begins one."""
    if not 0 < len(word) <= LONGEST_NAME or word[0] not in LETTERS:
        return False
    return all([sign in NAME_SIGNS for sign in word])


def is_name(thing):
    return isinstance(thing, str) and begins_name(thing) and thing not in KEPT


def are_names(thing):
    return is_list(thing) and all([is_name(part) for part in thing])


def first_no_end(ends):
    """The index of the first thing that is no name or stood ahead, None if these are ends."""
    if not is_list(ends):
        return 0
    stood = {}
    for at, end in enumerate(ends):
        if not is_name(end) or end in stood:
            return at
        stood[end] = True
    return None


def check_ends(ends):
    at = first_no_end(ends)
    if at is not None:
        raise BadEnds(at)


def check_most(most):
    if not is_number(most):
        raise BadMost(most)


def first_not_twice(names):
    """The first name that does not stand just twice, None if each does."""
    times = {}
    for name in names:
        times[name] = times.get(name, 0) + 1
    for name in names:
        if times[name] != 2:
            return name
    return None
