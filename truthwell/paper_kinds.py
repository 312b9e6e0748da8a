"""The kinds of papers: their words, the names of their parts, and how they are made."""

from truthwell.again import Again
from truthwell.again import Contrary
from truthwell.ahead import Enough
from truthwell.ahead import Layers
from truthwell.ahead import ShadowRing
from truthwell.ahead import Shared
from truthwell.bars import LeastBars
from truthwell.bars import NoBars
from truthwell.books import Book
from truthwell.broken import Breaks
from truthwell.broken import Lawful
from truthwell.entries import Endless
from truthwell.errors import BadPaper
from truthwell.fading import Fading
from truthwell.fading import Grows
from truthwell.freer import Freer
from truthwell.freer import NoFreer
from truthwell.fronts import CoinFront
from truthwell.fronts import RoundFront
from truthwell.gaps import Gap
from truthwell.lists import is_list
from truthwell.order import OrderFree
from truthwell.order import Ordered
from truthwell.pair_plans import Untold
from truthwell.papers import Denial
from truthwell.papers import Paper
from truthwell.plans import Plan
from truthwell.prices import PriceBook
from truthwell.prices import PricePlan
from truthwell.rings import Ring
from truthwell.round_books import RoundBook
from truthwell.round_books import RoundRing
from truthwell.rounds import RoundPlan
from truthwell.untold import Tellings
from truthwell.whom import Crews
from truthwell.whom import NoCrew

PARTS = {
    "again": ("number",), "book": ("layers",), "breaks": ("places", "falls"), "coinfront": ("points", "plans", "books"),
    "contrary": ("signs", "begin"), "crews": ("enough", "short"), "enough": ("numbers", "table"),
    "fading": ("pairs",), "freer": ("past",), "gap": ("kind", "weighed", "shown"), "grows": ("thing", "past", "more"),
    "lawful": ("stands",), "layers": ("layers",), "leastbars": ("enough", "short"), "nobars": ("short",),
    "nocrew": ("short",), "nofreer": ("pairs",), "ordered": ("past", "other"), "orderfree": ("stands",),
    "plan": ("table",), "pricebook": ("table",), "priceplan": ("table",), "ring": ("table",), "roundbook": ("table",),
    "roundfront": ("points", "plans", "books"), "roundplan": ("table",), "roundring": ("table",),
    "shadowring": ("shadows",), "shared": ("group", "hearing"), "tellings": ("told", "knots"),
    "untold": ("group", "ring"),
}


def is_kind(value):
    """Whether a value is the kind of some papers."""
    return isinstance(value, str) and value in PARTS


def kind_words():
    """The kinds of papers, ascending."""
    return tuple(sorted(PARTS))


def part_names(kind):
    """The names of the parts of a kind."""
    if not is_kind(kind):
        raise BadPaper("kind")
    return PARTS[kind]


def made(kind, parts):
    """The paper of a kind with these parts."""
    names = part_names(kind)
    if not is_list(parts) or len(parts) != len(names):
        raise BadPaper("parts")
    return made_of(kind, list(parts))


def made_of(kind, parts):
    """The paper of a kind with these parts, of which there are as many as it has."""
    if kind < "gap":
        return made_early(kind, parts)
    if kind < "plan":
        return made_middle(kind, parts)
    return made_late(kind, parts)


def made_early(kind, parts):
    """The paper of the first kinds: those ahead of gap."""
    if kind == "again":
        return Again(*parts)
    if kind == "book":
        return Book(*parts)
    if kind == "breaks":
        return Breaks(*parts)
    if kind == "coinfront":
        return CoinFront(*parts)
    if kind == "contrary":
        return Contrary(*parts)
    if kind == "crews":
        return Crews(*parts)
    if kind == "enough":
        return Enough(*parts)
    if kind == "fading":
        return Fading(*parts)
    return Freer(*parts)


def made_middle(kind, parts):
    """The paper of a kind from gap on, ahead of plan."""
    if kind == "gap":
        return Gap(*parts)
    if kind == "grows":
        return Grows(*parts)
    if kind == "lawful":
        return Lawful(*parts)
    if kind == "layers":
        return Layers(*parts)
    if kind == "leastbars":
        return LeastBars(*parts)
    if kind == "nobars":
        return NoBars(*parts)
    if kind == "nocrew":
        return NoCrew(*parts)
    if kind == "nofreer":
        return NoFreer(*parts)
    if kind == "ordered":
        return Ordered(*parts)
    return OrderFree(*parts)


def made_late(kind, parts):
    """The paper of a kind from plan on."""
    if kind == "plan":
        return Plan(*parts)
    if kind == "pricebook":
        return PriceBook(*parts)
    if kind == "priceplan":
        return PricePlan(*parts)
    if kind == "ring":
        return Ring(*parts)
    if kind == "roundbook":
        return RoundBook(*parts)
    if kind == "roundfront":
        return RoundFront(*parts)
    if kind == "roundplan":
        return RoundPlan(*parts)
    if kind == "roundring":
        return RoundRing(*parts)
    if kind == "shadowring":
        return ShadowRing(*parts)
    if kind == "shared":
        return Shared(*parts)
    if kind == "tellings":
        return Tellings(*parts)
    return Untold(*parts)


def paper_kind(value):
    """The kind of any value that is a paper of one of these classes; None for any other one."""
    if not isinstance(value, Paper) or type(value) is Paper or type(value) is Denial or type(value) is Endless:
        return None
    return value.word
