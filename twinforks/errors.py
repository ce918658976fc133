"""The errors of the package, each with the very objects that it was made with."""


class ForkError(ValueError):
    """What all errors of the package are."""


class BadBook(ForkError):
    def __init__(self, index):
        super().__init__("no line of a book behind those ahead")
        self.index = index


class BadBox(ForkError):
    def __init__(self, thing):
        super().__init__("no box of these ends")
        self.thing = thing


class BadCells(ForkError):
    def __init__(self, index):
        super().__init__("no cell")
        self.index = index


class BadChoice(ForkError):
    def __init__(self, thing):
        super().__init__("what was chosen is no meeting of the net")
        self.thing = thing


class BadCourse(ForkError):
    def __init__(self, index):
        super().__init__("no meeting of the net behind those ahead")
        self.index = index


class BadDeed(ForkError):
    def __init__(self, deed):
        super().__init__("no deed")
        self.deed = deed


class BadEnd(ForkError):
    def __init__(self, thing):
        super().__init__("no end of the net")
        self.thing = thing


class BadEndless(ForkError):
    def __init__(self, thing):
        super().__init__("no endless row")
        self.thing = thing


class BadEnds(ForkError):
    def __init__(self, index):
        super().__init__("no name of an end, or one that stood ahead")
        self.index = index


class BadFigures(ForkError):
    def __init__(self, thing):
        super().__init__("no row of figures")
        self.thing = thing


class BadForm(ForkError):
    def __init__(self, thing):
        super().__init__("no course, or no derivation, by its form")
        self.thing = thing


class BadIndex(ForkError):
    def __init__(self, thing):
        super().__init__("no index")
        self.thing = thing


class BadItems(ForkError):
    def __init__(self, index):
        super().__init__("no item, or one that uses what it can't")
        self.index = index


class BadJoins(ForkError):
    def __init__(self, index):
        super().__init__("no join")
        self.index = index


class BadKind(ForkError):
    def __init__(self, thing):
        super().__init__("no kind of a cell")
        self.thing = thing


class BadLot(ForkError):
    def __init__(self, index):
        super().__init__("no meeting of the net, or one that stood ahead")
        self.index = index


class BadMachine(ForkError):
    def __init__(self, thing):
        super().__init__("no machine")
        self.thing = thing


class BadMany(ForkError):
    def __init__(self, thing):
        super().__init__("no number")
        self.thing = thing


class BadMost(ForkError):
    def __init__(self, thing):
        super().__init__("no number")
        self.thing = thing


class BadNames(ForkError):
    def __init__(self, names):
        super().__init__("no such names")
        self.names = names


class BadNet(ForkError):
    def __init__(self, thing):
        super().__init__("no net")
        self.thing = thing


class BadOther(ForkError):
    def __init__(self, thing):
        super().__init__("not such a thing as the one ahead")
        self.thing = thing


class BadPair(ForkError):
    def __init__(self, thing):
        super().__init__("no meeting of the net")
        self.thing = thing


class BadParts(ForkError):
    def __init__(self, index):
        super().__init__("no part, or one named like a part ahead")
        self.index = index


class BadPlan(ForkError):
    def __init__(self, thing):
        super().__init__("no plan")
        self.thing = thing


class BadProgram(ForkError):
    def __init__(self, thing):
        super().__init__("no program")
        self.thing = thing


class BadQuestion(ForkError):
    def __init__(self, thing):
        super().__init__("no question now")
        self.thing = thing


class BadRules(ForkError):
    def __init__(self, index):
        super().__init__("no rule behind those ahead")
        self.index = index


class BadSession(ForkError):
    def __init__(self, thing):
        super().__init__("no session")
        self.thing = thing


class BadShut(ForkError):
    def __init__(self, index):
        super().__init__("no box, or one that meets a box ahead")
        self.index = index


class BadStates(ForkError):
    def __init__(self, index):
        super().__init__("no state behind those ahead")
        self.index = index


class BadStep(ForkError):
    def __init__(self, step):
        super().__init__("no step that can be done")
        self.step = step


class BadSurroundings(ForkError):
    def __init__(self, thing):
        super().__init__("no surroundings of these ends")
        self.thing = thing


class BadTable(ForkError):
    def __init__(self, index):
        super().__init__("no pair of boxes, or one that meets a box ahead")
        self.index = index


class BadText(ForkError):
    def __init__(self, index):
        super().__init__("no such text")
        self.index = index


class BadTies(ForkError):
    def __init__(self, index):
        super().__init__("no tie, or one of an end that is tied")
        self.index = index


class BadWay(ForkError):
    def __init__(self, thing):
        super().__init__("no way")
        self.thing = thing


class BadWire(ForkError):
    def __init__(self, name):
        super().__init__("no wire's name, or one that does not stand just twice")
        self.name = name


class InUse(ForkError):
    def __init__(self, question):
        super().__init__("a watched question would be none")
        self.question = question


class IsWatched(ForkError):
    def __init__(self, question):
        super().__init__("the question is watched")
        self.question = question


class Meets(ForkError):
    def __init__(self, end):
        super().__init__("an end's name would stand twice")
        self.end = end


class NoCount(ForkError):
    def __init__(self, thing):
        super().__init__("no number of deeds done")
        self.thing = thing


class NotNow(ForkError):
    def __init__(self, why):
        super().__init__("the deed can't be done now")
        self.why = why


class NotOpen(ForkError):
    def __init__(self, index):
        super().__init__("a cell stands in no tree")
        self.index = index


class NotStill(ForkError):
    def __init__(self, pair):
        super().__init__("two cells meet")
        self.pair = pair


class NotWatched(ForkError):
    def __init__(self, question):
        super().__init__("the question is not watched")
        self.question = question


class NotWithout(ForkError):
    def __init__(self, index):
        super().__init__("a fork of the tree is of the kind")
        self.index = index


class WouldChange(ForkError):
    def __init__(self, question, why):
        super().__init__("a held question would be answered otherwise")
        self.question = question
        self.why = why
