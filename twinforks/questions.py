"""Questions of a net that is built, and their answers."""

from twinforks.forms import is_box_at
from twinforks.formrows import alike
from twinforks.partings import parting
from twinforks.plugging import is_end_of
from twinforks.resting import rest
from twinforks.shares import share
from twinforks.stills import is_open, opened
from twinforks.tables import is_table, net_of
from twinforks.things import is_list
from twinforks.walking import box_walked

MOST_MEETINGS = 60
MOST_PASSINGS = 400
# How many parts a question of each word has.
PARTS = {"walk": 2, "meetings": 1, "open": 1, "share": 3, "does": 2}


def is_question_of(net, thing):
    """Whether any object is a question of a net."""
    if not is_list(thing) or len(thing) == 0 or not isinstance(thing[0], str):
        return False
    if PARTS.get(thing[0], 0) != len(thing):
        return False
    if thing[0] == "walk":
        return is_box_at(net.ends(), thing[1])
    if thing[0] == "does":
        return is_table(net.ends(), thing[1], [])
    return all([is_end_of(net, part) for part in thing[1:]])


def box_told(box):
    return box[0], list(box[1]), list(box[2])


def question_told(question):
    """A question as it is kept and told, made of new lists."""
    if question[0] == "walk":
        return "walk", box_told(question[1])
    if question[0] == "does":
        return "does", [(box_told(pair[0]), box_told(pair[1])) for pair in question[1]]
    return tuple(question)


class View:
    """A net, and what it comes to at rest, if it does so soon enough."""

    def __init__(self, net):
        self.seen_net = net
        found = rest(net, MOST_MEETINGS)
        self.number = None
        self.still = None
        self.left = None
        if found is not None:
            self.still, self.number = found
            self.left = opened(self.still)

    def answer(self, question):
        """The answer of a question of the net."""
        word = question[0]
        if word == "walk":
            return box_walked(self.seen_net, question[1], MOST_PASSINGS)
        if word == "meetings" or self.still is None:
            return self.number
        if word == "open":
            return is_open(self.still)
        if word == "share":
            return share(self.left, question[1], question[2])
        return alike(self.left, self.net_wanted(question))

    def net_wanted(self, question):
        """The net of the table of a question."""
        return net_of(self.seen_net.ends(), question[1], [])

    def what_parts(self, question):
        """What parts the net from that of a table, which it does not do."""
        return parting(self.left, self.net_wanted(question))
