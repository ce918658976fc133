"""The first wrong sign of a text, and a text that goes on.

A READER knows what texts of its sort are made of, words and the signs behind them, a blank or a line feed:
may_begin(word) tells whether a text can go on that has this part of a word next, may_end(word, sign) whether one
can that has this whole word and then the sign; put(word, sign) goes behind these; is_done() tells whether a text may
end there; guess(word) is a pair of a whole word, beginning with what is handed, and of a sign that may be put.
"""

from twinforks.errors import BadText


def scanned(reader, text):
    """The index of the first wrong sign, or the text's length, and the part of a word that stands there."""
    word = ""
    for at, sign in enumerate(text):
        if sign in (" ", "\n"):
            if not reader.may_end(word, sign):
                return at, word
            reader.put(word, sign)
            word = ""
        else:
            word = word + sign
            if not reader.may_begin(word):
                return at, word
    return len(text), word


def fault_of(reader, text):
    """The first wrong sign of any object, by a new reader."""
    if not isinstance(text, str):
        return -1
    at, word = scanned(reader, text)
    if at == len(text) and word == "" and reader.is_done():
        return None
    return at


def going_on(reader, text):
    """A text that begins with this one, None if there is none, of any object, by a new reader."""
    if not isinstance(text, str):
        return None
    at, word = scanned(reader, text)
    if at < len(text):
        return None
    more = []
    while word != "" or not reader.is_done():
        whole, sign = reader.guess(word)
        more.append(whole[len(word):] + sign)
        reader.put(whole, sign)
        word = ""
    return text + "".join(more)


def check_fault(fault):
    if fault is not None:
        raise BadText(fault)


def lines_of(text):
    """The words of each line of a text that is right."""
    return [line.split(" ") for line in text.split("\n")[:-1]]
