"""The readers of the texts of courses, derivations and ways."""

from twinforks.stocks import Stock
from twinforks.things import FIGURES

LONGEST_NUMBER = 9
GREATEST = 999999999

# What stands behind each word that begins a line.
STEP_SLOTS = {"grow": "kind", "shrink": "index", "turn": "index", "loop": "step", "unloop": "step"}
WAY_WORDS = {"deed": ("put", "take"), "figure": ("0", "1")}


def is_numeral(word):
    """Whether a string is a number of at most nine figures, as Python writes it."""
    if not 0 < len(word) <= LONGEST_NUMBER or not all([sign in FIGURES for sign in word]):
        return False
    return word[0] != "0" or word == "0"


def greatest_from(word):
    """The greatest number that begins with a number's word."""
    if word == "0":
        return 0
    return int(word + "9" * (LONGEST_NUMBER - len(word)))


class CourseReader:
    """Reads a course's text, as twinforks.scanning tells."""

    def __init__(self):
        self.first = -1

    def may_begin(self, word):
        if not is_numeral(word):
            return False
        if self.first == -1:
            return int(word) < GREATEST
        return greatest_from(word) > self.first

    def may_end(self, word, sign):
        if self.first == -1:
            return sign == " " and is_numeral(word)
        return sign == "\n" and is_numeral(word) and int(word) > self.first

    def put(self, word, sign):
        self.first = -1 if sign == "\n" else int(word)

    def is_done(self):
        return self.first == -1


class StepsReader:
    """Reads a derivation's text, as twinforks.scanning tells. Its slot is what the next word is to be:
    "step" (a line's first), "kind", "wire", "index".
    """

    def __init__(self):
        self.slot = "step"
        self.wire_names = Stock(1)

    def may_begin(self, word):
        if self.slot == "step":
            return any([one.startswith(word) for one in STEP_SLOTS])
        if self.slot == "kind":
            return word in ("x", "y")
        if self.slot == "wire":
            return self.wire_names.may_begin(word)
        return is_numeral(word)

    def may_end(self, word, sign):
        if self.slot == "step":
            return word in STEP_SLOTS and sign == ("\n" if STEP_SLOTS[word] == "step" else " ")
        if self.slot == "kind":
            return sign == " " and word in ("x", "y")
        if self.slot == "wire":
            return sign == "\n" and self.wire_names.has(word)
        return sign == "\n" and is_numeral(word)

    def put(self, word, sign):
        if sign == "\n":
            self.slot = "step"
        elif self.slot == "step":
            self.slot = STEP_SLOTS[word]
        else:
            self.slot = "wire"

    def is_done(self):
        return self.slot == "step"


class WayReader:
    """Reads a way's text, as twinforks.scanning tells. Its slot is what the next word is to be: "index" (a line's
    first), "deed", "figure".
    """

    def __init__(self):
        self.slot = "index"

    def may_begin(self, word):
        if self.slot == "index":
            return is_numeral(word)
        return any([one.startswith(word) for one in WAY_WORDS[self.slot]])

    def may_end(self, word, sign):
        if sign != ("\n" if self.slot == "figure" else " "):
            return False
        return is_numeral(word) if self.slot == "index" else word in WAY_WORDS[self.slot]

    def put(self, word, sign):
        if sign == "\n":
            self.slot = "index"
        else:
            self.slot = "deed" if self.slot == "index" else "figure"

    def is_done(self):
        return self.slot == "index"

    def guess(self, word):
        sign = "\n" if self.slot == "figure" else " "
        if self.slot == "index":
            return (word if word != "" else "0"), sign
        return [one for one in WAY_WORDS[self.slot] if one.startswith(word)][0], sign
