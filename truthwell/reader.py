"""Values as texts, of whatever kind, and which papers are shown."""

from truthwell.ahead import Enough
from truthwell.ahead import ShadowRing
from truthwell.books import Book
from truthwell.case_wants import want_case
from truthwell.cases import Case
from truthwell.cases import read_case
from truthwell.check_ahead import shows_enough
from truthwell.check_ahead import shows_shadow_ring
from truthwell.check_bars import shows_crews
from truthwell.check_bars import shows_tellings
from truthwell.check_books import shows_book
from truthwell.check_books import shows_gap
from truthwell.check_books import shows_ring
from truthwell.check_plans import shows_plan
from truthwell.check_plans import shows_untold
from truthwell.check_rounds import shows_round_front
from truthwell.deeds import read_deeds
from truthwell.errors import BadPaper
from truthwell.errors import BadStory
from truthwell.errors import BadText
from truthwell.errors import Never
from truthwell.errors import NotEven
from truthwell.evenings import Evening
from truthwell.fading import shows_fading
from truthwell.fronts import RoundFront
from truthwell.gaps import Gap
from truthwell.pair_plans import Untold
from truthwell.paper_kinds import paper_kind
from truthwell.paper_texts import paper_words
from truthwell.paper_texts import read_kind_and_parts
from truthwell.plans import Plan
from truthwell.questions import Question
from truthwell.questions import read_question
from truthwell.rings import Ring
from truthwell.rules import Rule
from truthwell.rules import read_rule
from truthwell.stocks import Stock
from truthwell.stocks import read_stock
from truthwell.stories import replay
from truthwell.stories import story_text
from truthwell.wishes import Wish
from truthwell.wishes import read_wish
from truthwell.words import Words

MOST_THINGS = 16


def kind_of(value):
    """The kind of any value; None for what has none."""
    if isinstance(value, Rule):
        return "rule"
    if isinstance(value, Question):
        return "question"
    if isinstance(value, Stock):
        return "stock"
    if isinstance(value, Wish):
        return "wish"
    if isinstance(value, Case):
        return "case"
    if isinstance(value, Evening):
        return "evening"
    return paper_kind(value)


def value_text(value):
    """The kind of a value and its text; BadPaper for what has none."""
    kind = kind_of(value)
    if paper_kind(value) is not None:
        words = paper_words(value, 0)
        if words is not None:
            return " ".join(words)
    elif kind == "evening":
        return f"evening {str(value.case)} ; {story_text(value.story)}"
    elif kind is not None:
        return f"{kind} {str(value)}"
    raise BadPaper("value")


def read_value(text):
    """The value of a text that begins with its kind."""
    words = Words(text)
    value = value_in(words)
    words.end()
    return value


def value_in(words):
    """The value whose kind and words stand here; those of an evening go on to the end."""
    if words.sees("evening"):
        words.skip("evening")
        return evening_in(words)
    if words.sees("rule"):
        words.skip("rule")
        answerers, heaps, rows = read_rule(words)
        return Rule(answerers, heaps, rows)
    if words.sees("question"):
        words.skip("question")
        who, heaps = read_question(words)
        return Question(who, heaps)
    if words.sees("stock"):
        words.skip("stock")
        things, answerers, heaps, questions = read_stock(words, Stock.MOST)
        return Stock(things, answerers, heaps, questions)
    if words.sees("wish"):
        words.skip("wish")
        return wish_in(words)
    if words.sees("case"):
        words.skip("case")
        return case_in(words)
    return read_kind_and_parts(words, 0)


def wish_in(words):
    """The wish whose words stand here; those of its classes go on to the end."""
    classes, most = read_wish(words, 1, MOST_THINGS)
    return Wish(classes, most)


def case_in(words):
    """The case whose words stand here."""
    stock, rule, firsts, wish = read_case(words)
    return Case(stock, rule, firsts, wish)


def evening_in(words):
    """The evening whose words stand here, to the end; a deed that is refused cannot stand."""
    case = case_in(words)
    words.skip(";")
    deeds, places = read_deeds(words)
    try:
        return replay(case, deeds)
    except BadStory as error:
        raise BadText(0, places[error.part])


def is_shown(case, value):
    """Whether any value is one of the papers that are told here, and right for the case."""
    want_case(case, "case")
    try:
        return is_shown_early(case, value) or is_shown_late(case, value)
    except (NotEven, Never):
        return False


def is_shown_early(case, value):
    """Whether a value is a right paper about plans, books, rings, gaps, or whether the case fades."""
    if isinstance(value, Plan):
        return shows_plan(case, value)
    if isinstance(value, Untold):
        return shows_untold(case, value)
    if isinstance(value, Book):
        return shows_book(case, value)
    if isinstance(value, Ring):
        return shows_ring(case, value)
    if isinstance(value, Gap):
        return shows_gap(case, value)
    return shows_fading(case, value)


def is_shown_late(case, value):
    """Whether a value is a right paper about lists asked ahead, rounds, crews, or what is told alone."""
    if isinstance(value, Enough):
        return shows_enough(case, value)
    if isinstance(value, ShadowRing):
        return shows_shadow_ring(case, value)
    if isinstance(value, RoundFront):
        return shows_round_front(case, value)
    return shows_crews(case, value) or shows_tellings(case, value)
