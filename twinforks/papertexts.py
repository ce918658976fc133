"""Texts of endless rows, courses, derivations."""

from twinforks.errors import BadForm
from twinforks.forms import check_endless, figures_of, signs_of
from twinforks.paperreading import GREATEST, CourseReader, StepsReader
from twinforks.scanning import check_fault, fault_of, lines_of
from twinforks.things import is_list, is_name, is_number, is_pair

# For what has been read of an endless row, and each sign that may be next, what has been read behind it.
BEHIND_HEAD = {"0": "head", "1": "head", "(": "bracket"}
BEHIND_BRACKET = {"0": "round", "1": "round"}
BEHIND_ROUND = {"0": "round", "1": "round", ")": "all"}


def endless_text(endless):
    """The text of an endless row, as it is told."""
    check_endless(endless)
    return f"{signs_of(endless[0])}({signs_of(endless[1])})"


def read_endless(text):
    """The endless row of a text, as it stands there."""
    check_fault(endless_fault(text))
    head, _, again = text.partition("(")
    return figures_of(head), figures_of(again[:-1])


def signs_next(read):
    """The signs that may be next in an endless row's text, each with what has been read behind it."""
    if read == "head":
        return dict(BEHIND_HEAD)
    if read == "bracket":
        return dict(BEHIND_BRACKET)
    return dict(BEHIND_ROUND) if read == "round" else {}


def endless_fault(text):
    """The index of the first wrong sign of any object, None for an endless row's text."""
    if not isinstance(text, str):
        return -1
    read = "head"
    for at, sign in enumerate(text):
        behind = signs_next(read)
        if sign not in behind:
            return at
        read = behind[sign]
    return None if read == "all" else len(text)


def is_index(thing):
    return is_number(thing) and thing <= GREATEST


def is_course_form(thing):
    """Whether any object is a course by its form."""
    if not is_list(thing) or not all([is_pair(pair) for pair in thing]):
        return False
    return all([is_index(one) and is_index(other) and one < other for one, other in thing])


def is_step_form(thing):
    """Whether any object is a step by its form."""
    if not is_list(thing):
        return False
    if len(thing) == 1:
        return thing[0] in ("loop", "unloop")
    if len(thing) == 2:
        return thing[0] in ("shrink", "turn") and is_index(thing[1])
    return len(thing) == 3 and thing[0] == "grow" and thing[1] in ("x", "y") and is_name(thing[2])


def course_text(course):
    """The text of a course."""
    if not is_course_form(course):
        raise BadForm(course)
    return "".join([f"{one} {other}\n" for one, other in course])


def read_course(text):
    """The course of a text."""
    check_fault(course_fault(text))
    return [(int(one), int(other)) for one, other in lines_of(text)]


def course_fault(text):
    """The index of the first wrong sign of any object, None for a course's text."""
    return fault_of(CourseReader(), text)


def steps_text(derivation):
    """The text of a derivation."""
    if not is_list(derivation) or not all([is_step_form(step) for step in derivation]):
        raise BadForm(derivation)
    return "".join([" ".join([str(part) for part in step]) + "\n" for step in derivation])


def step_of(words):
    if words[0] in ("shrink", "turn"):
        return words[0], int(words[1])
    return tuple(words)


def read_steps(text):
    """The derivation of a text."""
    check_fault(steps_fault(text))
    return [step_of(words) for words in lines_of(text)]


def steps_fault(text):
    """The index of the first wrong sign of any object, None for a derivation's text."""
    return fault_of(StepsReader(), text)
