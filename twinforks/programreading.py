"""The readers of the texts of programs and books."""

from twinforks.stocks import Stock

DEEDS = ("stop", "turn x", "turn y", "put 0 x", "put 0 y", "put 1 x", "put 1 y", "take 0 x", "take 0 y", "take 1 x",
         "take 1 y", "by x (", "by y (", "round x (", "round y (")
# What may stand behind an inner program: the first and the second one of a by, that of a round.
BEHIND_INNER = {"first": (" | ",), "second": (") to x", ") to y"), "round": (") x", ") y")}


class ProgramReader:
    """Reads a program's text, as twinforks.wordscanning tells. Its slot is what the next word is to be: "program" (its
    first deed, or that it has none), "deed", "more" (what stands behind a deed), "end" (what stands behind a program
    without deeds). Its frames are the inner programs in which the word stands, the innermost one last.
    """

    def __init__(self):
        self.slot = "program"
        self.frames = []

    def deed_words(self):
        return list(DEEDS)

    def end_words(self):
        """The words that may stand behind the whole program here."""
        return list(BEHIND_INNER[self.frames[-1]]) if len(self.frames) > 0 else []

    def words_here(self):
        if self.slot == "program":
            return ["nothing", *self.deed_words()]
        if self.slot == "deed":
            return self.deed_words()
        return self.end_words() + (["; "] if self.slot == "more" else [])

    def may_begin(self, word):
        return any([one.startswith(word) for one in self.words_here()])

    def is_word(self, word):
        return word in self.words_here()

    def guess(self, word):
        return [one for one in self.words_here() if one.startswith(word)][0]

    def put(self, word):
        if word == "nothing":
            self.slot = "end"
        elif word == "; ":
            self.slot = "deed"
        elif word == " | ":
            self.frames[-1] = "second"
            self.slot = "program"
        elif word.endswith("("):
            self.frames.append("first" if word.startswith("by") else "round")
            self.slot = "program"
        else:
            if word.startswith(")"):
                self.frames.pop()
            self.slot = "more"

    def is_done(self):
        return self.slot in ("more", "end") and len(self.frames) == 0


class BookReader(ProgramReader):
    """Reads a book's text. Two slots more: "name" (a line's), "colon" (what stands behind it)."""

    def __init__(self):
        ProgramReader.__init__(self)
        self.slot = "name"
        self.line_names = Stock(1)
        self.name_here = ""
        self.do_words = []

    def deed_words(self):
        return [*DEEDS, *self.do_words]

    def end_words(self):
        """The words that may stand behind the whole program here."""
        return list(BEHIND_INNER[self.frames[-1]]) if len(self.frames) > 0 else ["\n"]

    def words_here(self):
        return [": "] if self.slot == "colon" else super().words_here()

    def may_begin(self, word):
        return self.line_names.may_begin(word) if self.slot == "name" else super().may_begin(word)

    def is_word(self, word):
        return self.line_names.has(word) if self.slot == "name" else super().is_word(word)

    def guess(self, word):
        return self.line_names.guess(word) if self.slot == "name" else super().guess(word)

    def put(self, word):
        if self.slot == "name":
            self.line_names.use_up(word)
            self.name_here = word
            self.slot = "colon"
        elif word == ": ":
            self.slot = "program"
        elif word == "\n":
            self.do_words.append(f"do {self.name_here}")
            self.slot = "name"
        else:
            super().put(word)

    def is_done(self):
        return self.slot == "name" and len(self.do_words) > 0
