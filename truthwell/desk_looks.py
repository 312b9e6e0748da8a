"""The lines of a desk that change nothing: what is answered to them."""

from truthwell.ahead import ahead
from truthwell.ahead import fewest_ahead
from truthwell.depths import depth_of
from truthwell.fading import fading
from truthwell.prices import least_coins
from truthwell.reader import is_shown
from truthwell.reader import value_text
from truthwell.rounds import least_in_rounds
from truthwell.told import lies
from truthwell.told import next_question
from truthwell.told import questions_left
from truthwell.whole import told_whole


def number_text(number):
    """A number; never for None."""
    return "never" if number is None else str(number)


def list_text(items):
    """Numbers or names, with single blanks between; a dash for none."""
    return " ".join([str(item) for item in items]) if len(items) > 0 else "-"


def look_text(kept, told):
    """The text of a value."""
    return value_text(kept[told[0]])


def look_names(kept, told):
    """All names."""
    return list_text(sorted(kept))


def look_depth(kept, told):
    """The least depth."""
    return number_text(depth_of(kept[told[0]]))


def look_ahead(kept, told):
    """Whether a list is enough, or what a group shares."""
    paper = ahead(kept[told[0]], told[1])
    return "enough" if paper else f"shared {list_text(paper.group)} : {list_text(paper.hearing)}"


def look_fewest(kept, told):
    """The fewest questions that are enough, asked ahead."""
    paper = fewest_ahead(kept[told[0]], told[1])
    return list_text(paper.numbers) if paper else "none"


def look_rounds(kept, told):
    """The least cost of so many rounds."""
    return number_text(least_in_rounds(kept[told[0]], told[1]))


def look_coins(kept, told):
    """The least coins."""
    return number_text(least_coins(kept[told[0]], told[2]))


def look_fades(kept, told):
    """Whether a case fades, or the thing by which it does not."""
    paper = fading(kept[told[0]])
    return "yes" if paper else f"no {paper.thing}"


def look_shown(kept, told):
    """Whether a value is a paper that is right for a case."""
    return "yes" if is_shown(kept[told[0]], kept[told[1]]) else "no"


def look_whole(kept, told):
    """The four least numbers."""
    return " ".join([number_text(number) for number, can, short in told_whole(kept[told[0]], told[2])])


def look_things(kept, told):
    """The things that are open in an evening."""
    return list_text(kept[told[0]].open_things)


def look_sure(kept, told):
    """The class or the things that are sure in an evening; a dash if it is not settled."""
    sure = kept[told[0]].sure
    if isinstance(sure, int):
        return str(sure)
    return "-" if sure is None else list_text(sure)


def look_lies(kept, told):
    """For how many of the open things an answer is a lie."""
    return lies(kept[told[0]], told[1])


def look_left(kept, told):
    """How many questions an evening needs."""
    return number_text(questions_left(kept[told[0]]))


def look_next(kept, told):
    """The question that comes next in an evening."""
    return str(next_question(kept[told[0]]))


LOOKS = {
    "text": look_text, "names": look_names, "depth": look_depth, "ahead": look_ahead, "fewest": look_fewest,
    "rounds": look_rounds, "coins": look_coins, "fades": look_fades, "shown": look_shown, "whole": look_whole,
    "open": look_things, "sure": look_sure, "lies": look_lies, "left": look_left, "next": look_next,
}


def looked(kept, word, told):
    """The answer to a line that changes nothing, by its first word and what those behind it tell."""
    look = LOOKS[word]
    return look(kept, told)
