"""Names that may still stand."""

from twinforks.things import LONGEST_NAME, NAME_SIGNS, begins_name, is_name


def names_from(length):
    """How many names begin with a word of this length.

    Kept words are counted, too: they are so short that the names which begin like them never run out.
    """
    many = 0
    for _ in range(LONGEST_NAME + 1 - length):
        many = many * len(NAME_SIGNS) + 1
    return many


class Stock:
    """Names of which each may stand a number of times."""

    def __init__(self, most):
        self.most = most
        self.times = {}
        self.singles = 0
        # How many names that begin with a word can't stand any more.
        self.spent = {}

    def spend(self, name):
        for length in range(1, len(name) + 1):
            word = name[:length]
            self.spent[word] = self.spent.get(word, 0) + 1

    def may_begin(self, word):
        """Whether some name that begins so may stand."""
        return begins_name(word) and self.spent.get(word, 0) < names_from(len(word))

    def has(self, name):
        """Whether this name may stand."""
        return is_name(name) and self.times.get(name, 0) < self.most

    def use_up(self, name):
        """The name stands once more."""
        self.times[name] = self.times.get(name, 0) + 1
        if self.times[name] == 1:
            self.singles += 1
        if self.times[name] == 2:
            self.singles -= 1
        if self.times[name] == self.most:
            self.spend(name)

    def single(self, word):
        """The first name that begins so and stands once, None without one."""
        for name in self.times:
            if self.times[name] == 1 and name.startswith(word):
                return name
        return None

    def guess(self, word):
        """A shortest name that begins so and may stand, where some name may."""
        if self.has(word):
            return word
        words = [word]
        while True:
            longer = [part + sign for part in words for sign in NAME_SIGNS]
            for name in longer:
                if self.has(name):
                    return name
            words = [part for part in longer if self.may_begin(part)]
