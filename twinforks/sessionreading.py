"""The reader of sessions' texts."""

from twinforks.planreading import PlanReader
from twinforks.tablereading import TableReader, row_of

# For each word of a question what is to be next, "line" if nothing is.
BEHIND_WORD = {"walk": "box", "meetings": "line", "open": "line", "share": "from", "does": "table"}
BEHIND_SLOT = {"line": "question", "box": "s", "s": "t", "t": "line", "from": "to", "to": "line", "and": "table"}
LINE_WORDS = ("watch", "hold")


class NetReader(PlanReader):
    """Reads the lines of a net without parts."""

    def line_words(self):
        """The words that may begin a line here."""
        return ["net"] if self.block == "" else super().line_words()


class QuestionReader:
    """Reads the lines of questions. Its slot is what the next word is to be: "line" (a line's first), "question" (its
    first), "box" (a box's end), "s", "t", "from" and "to" (ends of a share), "table" (a word of two boxes), "and".
    """

    def __init__(self, ends):
        self.net_ends = list(ends)
        self.slot = "line"
        self.table = TableReader(ends)

    def words_here(self):
        """The words that may stand here, but for rows and what is within a pair of boxes."""
        if self.slot == "line":
            return list(LINE_WORDS)
        if self.slot == "question":
            # Without an end there is nothing to ask of one.
            return [word for word in BEHIND_WORD if len(self.net_ends) > 0 or word not in ("walk", "share")]
        if self.slot == "and":
            return ["and"]
        return self.table.free_ends() if self.slot == "table" else self.net_ends

    def is_in_pair(self):
        """Whether the next word is one within a pair of boxes, not the first one."""
        return self.table.slot != "line"

    def may_begin(self, word):
        if self.is_in_pair():
            return self.table.may_begin(word)
        if self.slot in ("s", "t"):
            return word == "-" or all([sign in "01" for sign in word])
        return any([one.startswith(word) for one in self.words_here()])

    def may_end(self, word, sign):
        if self.is_in_pair():
            return self.may_end_in_pair(word, sign)
        if self.slot in ("s", "t"):
            return word != "" and sign in self.signs_behind(word)
        return word in self.words_here() and sign in self.signs_behind(word)

    def signs_behind(self, word):
        """The signs that may stand behind a word that may stand here."""
        if self.slot == "question" and word == "does":
            return " \n" if len(self.net_ends) > 0 else "\n"
        if self.slot == "table":
            return " "
        behind = BEHIND_WORD[word] if self.slot == "question" else BEHIND_SLOT[self.slot]
        return "\n" if behind == "line" else " "

    def may_end_in_pair(self, word, sign):
        """Behind a pair the line may end, or go on if there is an address left."""
        if self.table.role == "first" or self.table.slot != "t" or sign == "\n":
            return self.table.may_end(word, sign)
        return self.table.may_end(word, "\n") and self.table.leaves_any(row_of(word))

    def put(self, word, sign):
        if self.slot == "table":
            self.table.put(word, sign)
            if self.table.slot == "line":
                self.slot = "and" if sign == " " else "line"
        elif sign == "\n":
            self.slot = "line"
        elif self.slot == "question":
            self.slot = BEHIND_WORD[word]
            self.table = TableReader(self.net_ends)
        else:
            self.slot = BEHIND_SLOT[self.slot]

    def is_done(self):
        return self.slot == "line"


class SessionReader:
    """Reads a session's text, as twinforks.scanning tells: the lines of its net, then those of questions."""

    def __init__(self):
        self.here = NetReader()
        self.asks = False

    def may_ask(self, words):
        """Whether the first question's line may begin with some of these words."""
        return not self.asks and self.here.is_done() and len(words) > 0

    def may_begin(self, word):
        return self.may_ask([one for one in LINE_WORDS if one.startswith(word)]) or self.here.may_begin(word)

    def may_end(self, word, sign):
        if self.may_ask([one for one in LINE_WORDS if one == word]):
            return sign == " "
        return self.here.may_end(word, sign)

    def put(self, word, sign):
        if self.may_ask([one for one in LINE_WORDS if one == word]):
            self.here = QuestionReader(list(self.here.end_names.times))
            self.asks = True
        self.here.put(word, sign)

    def is_done(self):
        return self.here.is_done()
