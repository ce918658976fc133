"""Books: lines of programs in which lines ahead are done."""

from twinforks.errors import BadBook
from twinforks.programreading import BookReader
from twinforks.programs import inner_programs, is_program_with
from twinforks.programtexts import program_of, text_of
from twinforks.things import is_list, is_name, is_pair
from twinforks.wordscanning import word_fault_of, words_going_on, words_in


def first_no_line(book):
    """The index of the first thing that is no line behind those ahead, 0 for no book at all, None in a book."""
    if not is_list(book) or len(book) == 0:
        return 0
    names = {}
    for at, line in enumerate(book):
        if not is_pair(line) or not is_name(line[0]) or line[0] in names or not is_program_with(line[1], names):
            return at
        names[line[0]] = True
    return None


def is_book(thing):
    """Whether any object is a book."""
    return first_no_line(thing) is None


def check_book(book):
    at = first_no_line(book)
    if at is not None:
        raise BadBook(at)


def deeds_done(program, programs):
    """The deeds of a program, those of the line in the place of each that does one; what is within them as it is."""
    deeds = []
    left = list(program)[::-1]
    while len(left) > 0:
        deed = left.pop()
        if deed[0] == "do":
            left.extend(list(programs[deed[1]])[::-1])
        else:
            deeds.append(deed)
    return deeds


def book_whole(book):
    """The last line's program, with the deeds of lines in the place of those that do them."""
    check_book(book)
    programs = {name: program for name, program in book}
    whole = []
    # Pairs of a program and the list in which it is made whole.
    left = [(book[-1][1], whole)]
    while len(left) > 0:
        program, made = left.pop()
        for deed in deeds_done(program, programs):
            inner = [(one, []) for one in inner_programs(deed)]
            left.extend(inner)
            made.append(with_inner(deed, [one for _, one in inner]))
    return whole


def with_inner(deed, programs):
    """A deed with these programs within it."""
    if len(programs) == 0:
        return tuple(deed)
    return deed[0], deed[1], *programs, deed[-1]


def book_text(book):
    """The text of a book."""
    check_book(book)
    return "".join([f"{name}: {text_of(program)}\n" for name, program in book])


def read_book(text):
    """The book of a text."""
    book = []
    words = []
    for word in words_in(BookReader(), text, book_fault(text)):
        words.append(word)
        if word == "\n":
            book.append((words[0], program_of(words[2:-1])))
            words = []
    return book


def book_fault(text):
    """The index of the first wrong sign of any object, None for a book's text."""
    return word_fault_of(BookReader(), text)


def book_goes_on(text):
    """A book's text that begins with any object, None if there is none."""
    return words_going_on(BookReader(), text)
