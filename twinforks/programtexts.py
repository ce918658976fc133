"""Texts of programs."""

from twinforks.programreading import ProgramReader
from twinforks.programs import check_program
from twinforks.wordscanning import word_fault_of, words_going_on, words_in


def deed_parts(deed):
    """What a deed's text is made of: strings, and inner programs."""
    if deed[0] == "by":
        return [f"by {deed[1]} (", deed[2], " | ", deed[3], f") to {deed[4]}"]
    if deed[0] == "round":
        return [f"round {deed[1]} (", deed[2], f") {deed[3]}"]
    return [" ".join([str(part) for part in deed])]


def program_parts(program):
    """What a program's text is made of: strings, and inner programs."""
    parts = []
    for deed in program:
        parts.extend(["; ", *deed_parts(deed)])
    return parts[1:] if len(parts) > 0 else ["nothing"]


def text_of(program):
    """The text of what is known to be a program, or a line's of a book."""
    told = []
    left = [program]
    while len(left) > 0:
        part = left.pop()
        if isinstance(part, str):
            told.append(part)
        else:
            left.extend(program_parts(part)[::-1])
    return "".join(told)


def deed_of(words):
    """The deed, without inner programs, of its words."""
    if words[0] in ("put", "take"):
        return words[0], int(words[1]), words[2]
    return tuple(words)


def program_of(words):
    """The program of the words of its text."""
    program = []
    # Of each inner program that is being read: the program around it, its deed's words, its deed's programs ahead.
    around = []
    for word in words:
        if word.endswith("("):
            around.append((program, word.split(" "), []))
            program = []
        elif word == " | ":
            around[-1][2].append(program)
            program = []
        elif word.startswith(")"):
            outer, head, inner = around.pop()
            outer.append((head[0], head[1], *inner, program, word[-1]))
            program = outer
        elif word not in ("nothing", "; "):
            program.append(deed_of(word.split(" ")))
    return program


def program_text(program):
    """The text of a program."""
    check_program(program)
    return text_of(program)


def read_program(text):
    """The program of a text."""
    return program_of(words_in(ProgramReader(), text, program_fault(text)))


def program_fault(text):
    """The index of the first wrong sign of any object, None for a program's text."""
    return word_fault_of(ProgramReader(), text)


def program_goes_on(text):
    """A program's text that begins with any object, None if there is none."""
    return words_going_on(ProgramReader(), text)
