"""Sessions, in which a net is built."""

from twinforks.deedwork import deed_told, is_deed, net_behind
from twinforks.errors import BadDeed, BadQuestion, BadSession, InUse, IsWatched, NoCount, NotWatched, WouldChange
from twinforks.nets import Net
from twinforks.questions import View, is_question_of, question_told
from twinforks.things import is_number


def check_session(session):
    if not isinstance(session, Session):
        raise BadSession(session)


def check_question(net, thing):
    if not is_question_of(net, thing):
        raise BadQuestion(thing)


def watched_behind(net, watched, deed):
    """The pairs (question, held) of what is watched behind a deed."""
    word = deed[0]
    if word not in ("watch", "hold", "free"):
        return watched
    check_question(net, deed[1])
    question = question_told(deed[1])
    found = [pair for pair in watched if pair[0] == question]
    if word == "free":
        if len(found) == 0:
            raise NotWatched(question)
        return [pair for pair in watched if pair[0] != question]
    if len(found) > 0 and (word == "watch" or found[0][1]):
        raise IsWatched(question)
    if len(found) == 0:
        return [*watched, (question, word == "hold")]
    return [(one, held or one == question) for one, held in watched]


def changes_of(net, behind, watched):
    """The triples (question, ahead, behind) of what is watched and answered otherwise of the net behind."""
    if len(watched) == 0 or behind == net:
        return []
    views = [View(net), View(behind)]
    told = []
    for question, _ in watched:
        answers = [view.answer(question) for view in views]
        if answers[0] != answers[1]:
            told.append((question_told(question), answers[0], answers[1]))
    return told


def why_changed(behind, change):
    """Why a held question would be answered otherwise."""
    question, old, new = change
    if question[0] == "does" and old is True and new is False:
        return View(behind).what_parts(question)
    return old, new


class Session:
    """A net that is built by deeds, with questions that are watched. It keeps STATES, triples (deed, net, watched) of a
    deed and of what there is behind it, watched a list of pairs (question, held). None of these is ever changed, nor is
    a list of them, so a state may stand in many sessions.
    """

    def __init__(self):
        self._past = [(None, Net([], [], []), [])]
        self._future = []

    def begin(self, net, watched):
        """Lets the session be one of this net, with these pairs, no deed done."""
        self._past = [(None, net, [(question_told(question), held) for question, held in watched])]
        self._future = []

    def state_behind(self, deed):
        """The state behind a deed, which has to be one that can be done."""
        if not is_deed(deed):
            raise BadDeed(deed)
        _, net, watched = self._past[-1]
        behind = net_behind(net, deed)
        more = watched_behind(net, watched, deed)
        for question, _ in watched:
            if not is_question_of(behind, question):
                raise InUse(question_told(question))
        return deed_told(deed), behind, more

    def changes_to(self, state):
        """What is watched now and is answered otherwise in a state."""
        _, net, watched = self._past[-1]
        return changes_of(net, state[1], watched)

    def do(self, deed):
        """Does a deed; tells the triples (question, ahead, behind) of what is answered otherwise behind it."""
        state = self.state_behind(deed)
        changes = self.changes_to(state)
        held = [question for question, is_held in self._past[-1][2] if is_held]
        for change in changes:
            if change[0] in held:
                raise WouldChange(change[0], why_changed(state[1], change))
        self._past = [*self._past, state]
        self._future = []
        return changes

    def is_question(self, thing):
        """Whether any object is a question now."""
        return is_question_of(self.net(), thing)

    def answer(self, question):
        """The answer of a question."""
        check_question(self.net(), question)
        return View(self.net()).answer(question)

    def would(self, deed):
        """What do would tell, held questions among the others."""
        return self.changes_to(self.state_behind(deed))

    def count(self):
        """How many deeds are done and not taken back."""
        return len(self._past) - 1

    def deeds(self):
        """The deeds that are done and not taken back."""
        return [deed_told(state[0]) for state in self._past[1:]]

    def undo(self):
        """Takes the last deed back, and tells it; None without one."""
        if self.count() == 0:
            return None
        state = self._past[-1]
        self._past = self._past[:-1]
        self._future = [state, *self._future]
        return deed_told(state[0])

    def again(self):
        """Does the next deed that was taken back again, and tells it; None without one."""
        if len(self._future) == 0:
            return None
        state = self._future[0]
        self._past = [*self._past, state]
        self._future = self._future[1:]
        return deed_told(state[0])

    def at(self, number):
        """A new session as this one was behind so many deeds."""
        if not is_number(number) or number > self.count():
            raise NoCount(number)
        other = Session()
        other._past = self._past[:number + 1]
        return other

    def copy(self):
        """A session like this one."""
        other = Session()
        other._past = list(self._past)
        other._future = list(self._future)
        return other

    def trial(self, work):
        """Hands the session to a function, tells what this tells, and puts all back as it was."""
        past = self._past
        future = self._future
        try:
            return work(self)
        finally:
            self._past = past
            self._future = future

    def net(self):
        """The net as it is now."""
        return self._past[-1][1]

    def watched(self):
        """The triples (question, answer, held) of all questions that are watched."""
        watched = self._past[-1][2]
        if len(watched) == 0:
            return []
        view = View(self.net())
        return [(question_told(question), view.answer(question), held) for question, held in watched]

    def __eq__(self, other):
        if not isinstance(other, Session):
            return False
        return self.net() == other.net() and self._past[-1][2] == other._past[-1][2]
