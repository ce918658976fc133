"""The reader of tables' texts."""

from twinforks.boxrooms import free_box, free_row, is_covered, is_filled, is_near, rows_beside


def row_of(word):
    """The figures of a row's word."""
    return "" if word == "-" else word


def word_of(row):
    return "-" if row == "" else row


class TableReader:
    """Reads a table's text, as twinforks.scanning tells. Its slot is what the next word is to be: "line" (a line's
    first), "to", "end", "s", "t"; its role what box this is: "first" and "second" of a pair, or "shut".
    """

    def __init__(self, ends):
        self.boxes = {end: [] for end in ends}
        self.slot = "line"
        self.role = ""
        self.at_end = ""
        self.s = ""

    def free_ends(self):
        """The ends at which a box more may stand: at which a pair's first box may, too, as it may be a small one."""
        return [end for end in self.boxes if not is_filled(self.boxes[end], "", "")]

    def first_words(self):
        """The words that a line, or a box, may begin with."""
        told = self.free_ends()
        if self.slot == "line" and len(told) > 0:
            told.append("shut")
        return told

    def rows_here(self, s):
        """The rows that no second row may meet if the first one is s."""
        return rows_beside(self.boxes[self.at_end], s)

    def may_begin(self, word):
        if self.slot in ("line", "end"):
            return any([one.startswith(word) for one in self.first_words()])
        if self.slot == "to":
            return "to".startswith(word)
        if word == "-":
            return self.may_be_row("")
        # The signs ahead of the last one have been seen to.
        if word[0] == "-" or word[-1] not in "01":
            return False
        if self.slot == "s":
            return not is_filled(self.boxes[self.at_end], word, "")
        return not is_covered(self.rows_here(self.s), word)

    def may_be_row(self, row):
        """Whether the row that is to be told here may be this one."""
        if self.slot == "s":
            return not is_covered(self.rows_here(row), "")
        if any([is_near(other, row) for other in self.rows_here(self.s)]):
            return False
        return self.role != "first" or self.leaves_any(row)

    def leaves_any(self, t):
        """Whether the box of s and t leaves an address for another one."""
        for end in self.boxes:
            more = [(self.s, t)] if end == self.at_end else []
            if not is_filled(self.boxes[end] + more, "", ""):
                return True
        return False

    def may_end(self, word, sign):
        if word == "" or sign != ("\n" if self.slot == "t" and self.role != "first" else " "):
            return False
        if self.slot in ("line", "end"):
            return word in self.first_words()
        if self.slot == "to":
            return word == "to"
        return self.may_be_row(row_of(word))

    def put(self, word, sign):
        if self.slot == "line":
            self.role = "shut" if word == "shut" else "first"
            self.slot = "end"
            if word != "shut":
                self.put(word, sign)
        elif self.slot == "to":
            self.role = "second"
            self.slot = "end"
        elif self.slot == "end":
            self.at_end = word
            self.slot = "s"
        elif self.slot == "s":
            self.s = row_of(word)
            self.slot = "t"
        else:
            self.boxes[self.at_end].append((self.s, row_of(word)))
            self.slot = "to" if self.role == "first" else "line"

    def is_done(self):
        return self.slot == "line"

    def guess(self, word):
        sign = "\n" if self.slot == "t" and self.role != "first" else " "
        return self.guessed_word(word), sign

    def guessed_word(self, word):
        if self.slot in ("line", "end"):
            return [one for one in self.first_words() if one.startswith(word)][0]
        if self.slot == "to":
            return "to"
        if word == "-":
            return word
        if self.slot == "s":
            return word_of(free_box(self.boxes[self.at_end], word, "")[0])
        row = free_row(self.rows_here(self.s), word)
        return word_of(row if self.may_be_row(row) else row + "0")
