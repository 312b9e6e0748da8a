"""The errors of the package: each keeps its fields in attributes of their names."""


class WellError(ValueError):
    """The base of all errors of the package."""


class BadRule(WellError):
    """No rule, or no rows of one."""

    def __init__(self, part):
        self.part = part


class BadPast(WellError):
    """No list of triples."""

    def __init__(self, part):
        self.part = part


class BadQuestion(WellError):
    """No question, or no heaps of one."""

    def __init__(self, part):
        self.part = part


class BadStock(WellError):
    """No stock, or no questions of one."""

    def __init__(self, part):
        self.part = part


class BadWish(WellError):
    """No wish, or no classes of one."""

    def __init__(self, part):
        self.part = part


class BadCase(WellError):
    """No case, or nothing that fits one."""

    def __init__(self, part):
        self.part = part


class BadSituation(WellError):
    """No situation of the case."""

    def __init__(self, part):
        self.part = part


class BadHearing(WellError):
    """No list of as many answers as questions."""

    def __init__(self, part):
        self.part = part


class BadList(WellError):
    """No list of what is told."""

    def __init__(self, part):
        self.part = part


class BadPlan(WellError):
    """No right plan of the case."""

    def __init__(self, part):
        self.part = part


class BadPrices(WellError):
    """No price for each question."""

    def __init__(self, part):
        self.part = part


class BadBars(WellError):
    """No list of bars."""

    def __init__(self, part):
        self.part = part


class BadEvening(WellError):
    """No evening."""

    def __init__(self, part):
        self.part = part


class BadStory(WellError):
    """No deed, no story, or a deed that is refused."""

    def __init__(self, part):
        self.part = part


class BadNumber(WellError):
    """No integer within the bounds."""

    def __init__(self, part):
        self.part = part


class BadPaper(WellError):
    """No such paper, or no text of one."""

    def __init__(self, part):
        self.part = part


class Missing(WellError):
    """A value that is none here; the base of those that tell of what."""

    def __init__(self, value):
        self.value = value


class NoThing(Missing):
    """A value that is no thing here."""

    def __init__(self, value):
        self.value = value


class NoAnswerer(Missing):
    """A value that is no answerer here."""

    def __init__(self, value):
        self.value = value


class NoHeap(Missing):
    """A value that is no heap here."""

    def __init__(self, value):
        self.value = value


class NoStand(Missing):
    """A value that is no stand here."""

    def __init__(self, value):
        self.value = value


class NoQuestion(Missing):
    """A value that is no number of a question here."""

    def __init__(self, value):
        self.value = value


class NoAsked(Missing):
    """A value that is no asking here."""

    def __init__(self, value):
        self.value = value


class NoName(Missing):
    """A value that is no name of a value here."""

    def __init__(self, value):
        self.value = value


class Unlike(WellError):
    """Two values that do not fit together."""

    def __init__(self, what):
        self.what = what


class Twice(WellError):
    """What stands twice."""

    def __init__(self, value):
        self.value = value


class Dead(WellError):
    """A stand at which nothing is let for an answerer and a true heap."""

    def __init__(self, stand, who, true):
        self.stand = stand
        self.who = who
        self.true = true


class Silent(WellError):
    """No rule is left."""


class Barred(WellError):
    """A place at which the rule is broken."""

    def __init__(self, place):
        self.place = place


class NotEven(WellError):
    """A rule that is not even-handed."""


class NotFading(WellError):
    """A thing by which the case does not fade."""

    def __init__(self, thing):
        self.thing = thing


class NotFreer(WellError):
    """A thing whose first stand is not freer."""

    def __init__(self, thing):
        self.thing = thing


class Never(WellError):
    """No number of questions is enough."""


class Settled(WellError):
    """Nothing is left to be asked."""


class Late(WellError):
    """An answer that is still awaited."""

    def __init__(self, asking):
        self.asking = asking


class Unheard(WellError):
    """An asking whose answer was not told."""

    def __init__(self, asking):
        self.asking = asking


class Heard(WellError):
    """An asking whose answer was told."""

    def __init__(self, asking):
        self.asking = asking


class Broken(WellError):
    """An asking by which nothing would be left open."""

    def __init__(self, asking):
        self.asking = asking


class NoDeed(WellError):
    """No deed to take back, or to do anew."""


class TooMany(WellError):
    """There are more than most."""

    def __init__(self, what, most):
        self.what = what
        self.most = most


class BadText(WellError):
    """A word that cannot stand; line is 0 where there is one alone."""

    def __init__(self, line, word):
        self.line = line
        self.word = word


class BadLine(WellError):
    """A line of a desk, and the error raised there."""

    def __init__(self, line, error):
        self.line = line
        self.error = error
