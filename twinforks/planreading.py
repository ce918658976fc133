"""The reader of plans' texts."""

from twinforks.stocks import Stock

# What may stand behind each word that begins a line.
BEHIND = {"x": " ", "y": " ", "stop": " ", "join": " ", "loop": "\n", "use": " ", "part": " ", "net": " \n"}
WIRES = {"x": 3, "y": 3, "stop": 1, "join": 2}


class PlanReader:
    """Reads a plan's text, as twinforks.scanning tells. Its slot is what the next word is to be:
    "word" (a line's first), "title" (a part's name), "end", "use" (the name of a part ahead), "wire".
    """

    def __init__(self):
        self.ahead = {}
        self.titles = Stock(1)
        self.block = ""
        self.title = ""
        self.many_ends = 0
        self.end_names = Stock(1)
        self.wire_names = Stock(2)
        self.slot = "word"
        self.left = 0

    def line_words(self):
        """The words that may begin a line here."""
        told = []
        if self.block != "":
            told.extend(["x", "y", "stop", "join", "loop"])
            if len(self.ahead) > 0:
                told.append("use")
        if self.block != "net" and self.wire_names.singles == 0:
            told.extend(["part", "net"])
        return told

    def stock(self):
        """The stock from which the next name is taken."""
        if self.slot == "title":
            return self.titles
        if self.slot == "end":
            return self.end_names
        return self.wire_names

    def may_begin(self, word):
        if self.slot == "word":
            return any([one.startswith(word) for one in self.line_words()])
        if self.slot == "use":
            return any([one.startswith(word) for one in self.ahead])
        return self.stock().may_begin(word)

    def may_end(self, word, sign):
        return sign in self.signs_behind(word)

    def signs_behind(self, word):
        """The signs that may stand behind a whole word, none if it is none."""
        if self.slot == "word":
            return BEHIND[word] if word in self.line_words() else ""
        if self.slot == "use":
            return self.behind_part(word) if word in self.ahead else ""
        if not self.stock().has(word):
            return ""
        if self.slot == "wire":
            return " " if self.left > 1 else "\n"
        return " \n"

    def behind_part(self, title):
        return " " if self.ahead[title] > 0 else "\n"

    def put(self, word, sign):
        if self.slot == "word":
            self.begin_line(word)
        elif self.slot == "use":
            self.left = self.ahead[word]
            self.slot = "wire"
        elif self.slot == "title":
            self.titles.use_up(word)
            self.title = word
            self.slot = "end"
        elif self.slot == "end":
            self.end_names.use_up(word)
            self.wire_names.use_up(word)
            self.many_ends += 1
        else:
            self.wire_names.use_up(word)
            self.left -= 1
        if sign == "\n":
            self.slot = "word"

    def begin_line(self, word):
        if word in ("part", "net"):
            self.begin_block(word)
        elif word == "use":
            self.slot = "use"
        elif word != "loop":
            self.left = WIRES[word]
            self.slot = "wire"

    def begin_block(self, word):
        """A part that ends here is one ahead from now on."""
        if self.block == "part":
            self.ahead[self.title] = self.many_ends
        self.block = word
        self.many_ends = 0
        self.end_names = Stock(1)
        self.wire_names = Stock(2)
        self.slot = "title" if word == "part" else "end"

    def is_done(self):
        return self.slot == "word" and self.block == "net" and self.wire_names.singles == 0

    def guess(self, word):
        """As few lines more as there can be: names that stand once come first, and each ends at a stop."""
        whole = self.guessed_word(word)
        signs = self.signs_behind(whole)
        return whole, ("\n" if "\n" in signs else " ")

    def guessed_word(self, word):
        if self.slot == "word":
            if word != "":
                return [one for one in self.line_words() if one.startswith(word)][0]
            return "net" if self.wire_names.singles == 0 else "stop"
        if self.slot == "use":
            return [one for one in self.ahead if one.startswith(word)][0]
        if self.slot == "wire":
            single = self.wire_names.single(word)
            if single is not None:
                return single
        return self.stock().guess(word)
