"""As twinforks.scanning, of texts whose words stand right behind one another, blanks and line feeds within them.

A READER here knows the words: may_begin(word) tells whether a text can go on that has this part of a word next,
is_word(word) whether it is a whole one, not ""; put(word) goes behind it; is_done() tells whether a text may end there;
guess(word) is a whole word that begins so.
"""

from twinforks.scanning import check_fault


def read_words(reader, text):
    """The index of the first wrong sign, or the text's length; the words; the part of a word behind them."""
    words = []
    word = ""
    for at, sign in enumerate(text):
        if not reader.may_begin(word + sign):
            if not reader.is_word(word):
                return at, words, word
            reader.put(word)
            words.append(word)
            word = ""
            if not reader.may_begin(sign):
                return at, words, word
        word = word + sign
    return len(text), words, word


def word_fault_of(reader, text):
    """The first wrong sign of any object, by a new reader."""
    if not isinstance(text, str):
        return -1
    at, _, word = read_words(reader, text)
    if at < len(text):
        return at
    if reader.is_word(word):
        reader.put(word)
        word = ""
    return None if word == "" and reader.is_done() else at


def words_going_on(reader, text):
    """A text that begins with this one, None if there is none, of any object, by a new reader."""
    if not isinstance(text, str):
        return None
    at, _, word = read_words(reader, text)
    if at < len(text):
        return None
    more = []
    while word != "" or not reader.is_done():
        whole = reader.guess(word)
        more.append(whole[len(word):])
        reader.put(whole)
        word = ""
    return text + "".join(more)


def words_in(reader, text, fault):
    """The words of a text whose first wrong sign is told, by a new reader; BadText if there is one."""
    check_fault(fault)
    _, words, word = read_words(reader, text)
    return [*words, word]
