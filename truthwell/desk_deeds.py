"""The changing lines of a desk: what is answered to them, and what is kept behind them."""

from truthwell.books import find_book
from truthwell.cases import Case
from truthwell.evenings import Evening
from truthwell.rings import judged


def with_value(kept, name, value):
    """What is kept, with this value under a name."""
    found = dict(kept)
    found[name] = value
    return found


def do_keep(kept, told):
    """Keeps a value."""
    return "kept", with_value(kept, told[0], told[1])


def do_case(kept, told):
    """Keeps the case of a stock, a rule and a wish."""
    return "kept", with_value(kept, told[0], Case.alike(kept[told[1]], kept[told[2]], told[4]))


def do_judge(kept, told):
    """Keeps the plan or the ring of a case."""
    paper = judged(kept[told[1]])
    return "plan" if paper else "ring", with_value(kept, told[0], paper)


def do_book(kept, told):
    """Keeps the book of a case, if there is one."""
    paper = find_book(kept[told[1]], told[2])
    return ("none", kept) if paper is None else ("book", with_value(kept, told[0], paper))


def do_forget(kept, told):
    """Keeps all but a value."""
    return "forgotten", {name: kept[name] for name in kept if name != told[0]}


def do_evening(kept, told):
    """Keeps an evening in which nothing is asked."""
    return "kept", with_value(kept, told[0], Evening(kept[told[1]]))


def do_ask(kept, told):
    """Asks a question in an evening."""
    evening = kept[told[0]].twin()
    asking = evening.ask(told[1])
    return str(asking), with_value(kept, told[0], evening)


def do_hear(kept, told):
    """Hears an answer in an evening."""
    evening = kept[told[0]].twin()
    evening.hear(told[1], told[2])
    return "heard", with_value(kept, told[0], evening)


def do_unhear(kept, told):
    """Makes an asking of an evening one that is not heard."""
    evening = kept[told[0]].twin()
    evening.unhear(told[1])
    return "unheard", with_value(kept, told[0], evening)


def do_drop(kept, told):
    """Makes an asking of an evening one that never was."""
    evening = kept[told[0]].twin()
    evening.forget(told[1])
    return "dropped", with_value(kept, told[0], evening)


def do_undo(kept, told):
    """Takes back the latest deed of an evening."""
    evening = kept[told[0]].twin()
    evening.undo()
    return "undone", with_value(kept, told[0], evening)


def do_redo(kept, told):
    """Does anew the deed of an evening that was taken back last."""
    evening = kept[told[0]].twin()
    evening.redo()
    return "redone", with_value(kept, told[0], evening)


DEEDS = {
    "keep": do_keep, "case": do_case, "judge": do_judge, "book": do_book, "forget": do_forget, "evening": do_evening,
    "ask": do_ask, "hear": do_hear, "unhear": do_unhear, "drop": do_drop, "undo": do_undo, "redo": do_redo,
}


def is_changing(word):
    """Whether a line with this first word is a changing one."""
    return word in DEEDS


def done(kept, word, told):
    """The answer to a changing line, by its first word and what those behind it tell, and what is kept then."""
    do = DEEDS[word]
    return do(kept, told)
