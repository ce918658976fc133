"""Texts of sessions."""

from twinforks.errors import BadQuestion
from twinforks.plantexts import line, net_text, read_net
from twinforks.scanning import check_fault, fault_of, lines_of
from twinforks.sessionreading import LINE_WORDS, SessionReader
from twinforks.sessions import Session, check_session
from twinforks.tabletexts import box_text, box_told, pair_told


def question_text(question):
    """The words of a question."""
    if question[0] == "walk":
        return f"walk {box_text(question[1])}"
    if question[0] == "does":
        return "does" + " and".join([f" {box_text(one)} to {box_text(other)}" for one, other in question[1]])
    return " ".join(question)


def question_of(words):
    """The question of its words."""
    if words[0] == "walk":
        return "walk", box_told(words[1:])
    if words[0] == "does":
        # A pair of boxes has seven words, and one stands between two pairs.
        return "does", [pair_told(words[at:at + 7]) for at in range(1, len(words), 8)]
    return tuple(words)


def write_session(session):
    """The text of a session: its net and what is watched."""
    check_session(session)
    lines = []
    for question, _, held in session.watched():
        lines.append(line(["hold" if held else "watch", question_text(question)]))
    return net_text(session.net()) + "".join(lines)


def read_session(text):
    """The session of a text, no deed done."""
    check_fault(session_fault(text))
    net_lines = []
    watched = []
    for words in lines_of(text):
        if words[0] not in LINE_WORDS:
            net_lines.append(line(words))
            continue
        question = question_of(words[1:])
        if question in [one for one, _ in watched]:
            raise BadQuestion(question)
        watched.append((question, words[0] == "hold"))
    session = Session()
    session.begin(read_net("".join(net_lines)), watched)
    return session


def session_fault(text):
    """The index of the first wrong sign of any object, None for a session's text."""
    return fault_of(SessionReader(), text)
