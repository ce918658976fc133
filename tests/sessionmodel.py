"""A session by the words of [84] to [90], slowly: a list of deeds that is gone through from its beginning each time."""

from chances import some_boxes, some_row
from twinforks.errors import BadQuestion, InUse, IsWatched, NotNow, NotWatched, WouldChange
from twinforks.formrows import alike
from twinforks.forms import is_box
from twinforks.meetings import meetings, met
from twinforks.nets import Net
from twinforks.plantexts import read_net
from twinforks.resting import rest
from twinforks.shares import share
from twinforks.steps import is_step, stepped, steps_at
from twinforks.stills import is_open, opened
from twinforks.tables import is_table, net_of
from twinforks.walking import box_walked

NAMES = {"fork": slice(2, 5), "stop": slice(1, 2), "wire": slice(1, 3), "tie": slice(1, 3), "name": slice(1, 3)}


def told_row(thing):
    """A question or a deed as it is told."""
    if isinstance(thing[-1], (list, tuple)) and thing[0] == "walk":
        return "walk", (thing[1][0], list(thing[1][1]), list(thing[1][2]))
    if thing[0] == "does":
        return "does", [tuple((end, list(s), list(t)) for end, s, t in pair) for pair in thing[1]]
    return tuple(thing)


def slow_is_question(net, thing):
    if not isinstance(thing, (list, tuple)) or not thing or not isinstance(thing[0], str):
        return False
    ends = net.ends()
    if thing[0] in ("meetings", "open"):
        return len(thing) == 1
    if thing[0] == "walk":
        return len(thing) == 2 and is_box(ends, thing[1])
    if thing[0] == "share":
        return len(thing) == 3 and all(isinstance(end, str) and end in ends for end in thing[1:])
    return thing[0] == "does" and len(thing) == 2 and is_table(ends, thing[1], [])


def slow_answer(net, question):
    if question[0] == "walk":
        return box_walked(net, question[1], 400)
    found = rest(net, 60)
    if found is None:
        return None
    if question[0] == "meetings":
        return found[1]
    if question[0] == "open":
        return is_open(found[0])
    if question[0] == "share":
        return share(opened(found[0]), question[1], question[2])
    return alike(opened(found[0]), net_of(net.ends(), question[1], []))


def cells_and_joins(net):
    return net.cells(), net.joins() + [(f"zz{k}", f"zz{k}") for k in range(net.loops())]


def slow_net(net, deed):
    """The net behind a deed of right form, NotNow for one that can't be done."""
    word = deed[0]
    ends = net.ends()
    cells, joins = cells_and_joins(net)
    names = list(deed[NAMES[word]]) if word in NAMES else []
    for at, name in enumerate(names):
        if name in names[:at]:
            raise NotNow(("same", name))
    should_be = names if word == "tie" else names[:1] if word == "name" else []
    for name in should_be:
        if name not in ends:
            raise NotNow(("none", name))
    for name in read_net(deed[1]).ends() if word == "lay" else names[len(should_be):]:
        if name in ends:
            raise NotNow(("end", name))
    if word == "fork":
        return Net(ends + names, cells + [tuple(deed[1:])], joins)
    if word == "stop":
        return Net(ends + names, cells + [("stop", deed[1])], joins)
    if word == "wire":
        return Net(ends + names, cells, joins + [tuple(names)])
    if word == "lay":
        other = read_net(deed[1])
        more, more_joins = cells_and_joins(other)
        new = {name: name if name in other.ends() else f"q{name}" for row in more for name in row[1:]}
        new.update({name: f"q{name}" if name not in other.ends() else name for row in more_joins for name in row})
        return Net(ends + other.ends(), cells + [(row[0], *[new[name] for name in row[1:]]) for row in more], joins + [tuple(new[name] for name in row) for row in more_joins])
    if word == "tie":
        return Net([end for end in ends if end not in names], cells, joins + [tuple(names)])
    if word == "name":
        if any(deed[2] in row for row in cells):
            # An inner wire may be called so.
            cells = [(row[0], *[f"v{name}" if name not in ends else name for name in row[1:]]) for row in cells]
        change = {deed[1]: deed[2]}
        return Net([change.get(end, end) for end in ends], [(row[0], *[change.get(name, name) for name in row[1:]]) for row in cells],
                   [tuple(change.get(name, name) for name in row) for row in joins])
    if word == "meet":
        if tuple(deed[1:]) not in meetings(net):
            raise NotNow(("apart", deed[1], deed[2]))
        return met(net, deed[1:])
    if word == "rest":
        found = rest(net, 60)
        if found is None:
            raise NotNow(("on",))
        return found[0]
    if not is_open(net) or not is_step(net, deed[1]):
        raise NotNow(("step", tuple(deed[1])))
    return stepped(net, deed[1])


def slow_do(net, watched, deed, bars):
    """The net, what is watched, and what is answered otherwise behind a deed; bars tells whether held questions bar."""
    more = list(watched)
    if deed[0] in ("watch", "hold", "free"):
        if not slow_is_question(net, deed[1]):
            raise BadQuestion(deed[1])
        question = told_row(deed[1])
        known = [one for one, _ in watched]
        if deed[0] == "free":
            if question not in known:
                raise NotWatched(question)
            more.pop(known.index(question))
        elif deed[0] == "hold" and question in known and not watched[known.index(question)][1]:
            more[known.index(question)] = (question, True)
        elif question in known:
            raise IsWatched(question)
        else:
            more.append((question, deed[0] == "hold"))
        return net, more, []
    behind = slow_net(net, deed)
    for question, _ in watched:
        if not slow_is_question(behind, question):
            raise InUse(question)
    changes = []
    for question, held in watched:
        answers = (slow_answer(net, question), slow_answer(behind, question))
        if answers[0] != answers[1]:
            if held and bars:
                raise WouldChange(question, answers)
            changes.append((question, *answers))
    return behind, more, changes


def some_question(chance, net):
    ends = net.ends() or ["a"]
    word = chance.one_of(("walk", "meetings", "open", "share", "does", "does", "walk"))
    if word == "walk":
        return (word, (chance.one_of(ends), some_row(chance, 3), some_row(chance, 3)))
    if word == "share":
        return (word, chance.one_of(ends), chance.one_of(ends))
    if word == "does":
        boxes = some_boxes(chance, ends, max(len(ends), 2))
        return (word, list(zip(boxes[::2], boxes[1::2])))
    return (word,)


LAID = ["net\n", "net u v\njoin u v\n", "net m\nx m p p\nloop\n", "part p a b\nx a b c\nstop c\nnet u m\nuse p u w\nuse p w m\n", "net c\nx w c s\nx w t u\nstop s\nstop t\nstop u\n"]


def some_deed(chance, net, watched):
    """A deed by chance, mostly one that can be done."""
    ends = net.ends()
    fresh = [name for name in [*"abcdefghkmnpqr", *[f"b{k}" for k in range(40)]] if name not in ends or not chance.below(20)]
    fresh = chance.mixed(fresh)
    some_ends = chance.mixed(ends) + ["none"] * 2
    word = chance.one_of(("fork", "fork", "stop", "wire", "lay", "tie", "tie", "tie", "name", "meet", "rest", "step", "watch", "watch", "hold", "free"))
    if word == "fork":
        return (word, chance.one_of("xy"), *fresh[:3])
    if word in ("stop", "wire"):
        return (word, *fresh[:1 + (word == "wire")])
    if word == "lay":
        return (word, chance.one_of(LAID))
    if word == "tie":
        return (word, some_ends[0], some_ends[chance.below(4) > 0])
    if word == "name":
        return (word, some_ends[0], chance.one_of(fresh + some_ends[:1]))
    if word == "meet":
        return (word, *chance.one_of(meetings(net) + [(0, 1)]))
    if word == "step":
        return (word, chance.one_of(steps_at(net) if is_open(net) else [("loop",)]) if chance.below(5) else ("shrink", 3))
    if word == "free":
        return (word, chance.one_of([one for one, _ in watched] + [("open",)]))
    if word in ("watch", "hold"):
        return (word, chance.one_of([one for one, _ in watched]) if watched and not chance.below(3) else some_question(chance, net))
    return (word,)
