"""Books: which answers leave, whatever is asked, more than so many questions can settle."""

from truthwell.carried import want_freer
from truthwell.carried import want_stock_and_wish
from truthwell.case_wants import want_case
from truthwell.case_wants import want_numbers
from truthwell.entries import Endless
from truthwell.entries import Held
from truthwell.entries import is_right_book
from truthwell.entries import is_right_ring
from truthwell.errors import BadPaper
from truthwell.errors import TooMany
from truthwell.led_layers import Side
from truthwell.led_layers import all_kept
from truthwell.led_layers import carried_layers
from truthwell.led_layers import layers_of_two
from truthwell.led_layers import led_layers
from truthwell.lists import want_number
from truthwell.met import Solved
from truthwell.moves import Mover
from truthwell.papers import Denial
from truthwell.shelves import freer_rows
from truthwell.shelves import least_free_of
from truthwell.two_cases import two_asked

MOST_ASKED = 12


class Book(Denial):
    """Layers of entries (situation, answers), from the first one on."""

    def __init__(self, layers):
        super().__init__("book", layers)
        self.layers = self.parts[0]


def want_book(case, book, part):
    """Raises BadPaper for what is no right Book of the case."""
    if not isinstance(book, Book) or not is_right_book(case, book.layers):
        raise BadPaper(part)


def find_book(case, most):
    """The full Book for most; None if the depth is at most most."""
    solved = solved_for(case, most)
    return full_book(solved, most, all_kept) if is_above(solved.depths[0], most) else None


def least_book(case, most):
    """A right Book for most, in no layer of which one situation stands for another one; None likewise."""
    solved = solved_for(case, most)
    if not is_above(solved.depths[0], most):
        return None
    freer = freer_rows(case.rule)
    return full_book(solved, most, lambda found: least_free_of(freer, found))


def solved_for(case, most):
    """What comes about in the case, for so many questions."""
    want_case(case, "case")
    want_number(most, 0, MOST_ASKED, "most")
    return Solved(case, case.firsts)


def is_above(depth, most):
    """Whether a depth, None for never, is above a number."""
    return depth is None or depth > most


def full_book(solved, most, thinned):
    """The full Book for most, with what stays of each layer, where the depth is above most."""

    def answers_at(situation, at, rest):
        """The least answers behind which the depth is above what is then left."""
        found = [[(told, number) for told, number in enumerate(behind)
                  if number is not None and is_above(solved.depths[number], rest - 1)][0]
                 for behind in solved.steps[at]]
        return [(told, solved.met[number], number) for told, number in found]

    return Book(led_layers(solved.met[0], 0, most, answers_at, thinned))


def hearing_by(case, paper, numbers):
    """What a right Book or Ring answers to these questions, one behind another."""
    want_case(case, "case")
    layers = lists_of(case, paper)
    want_numbers(case, numbers)
    if isinstance(paper, Book) and len(numbers) > len(layers) - 1:
        raise TooMany("numbers", len(layers) - 1)
    freer = freer_rows(case.rule)
    held = [Held(freer, layer) for layer in layers]
    mover = Mover(case)
    left = case.firsts
    hearing = []
    for at, number in enumerate(numbers):
        # A ring has one list, which goes on.
        now = held[min(at, len(held) - 1)]
        told = now.told[now.first_for(left)][number]
        hearing.append(told)
        left = mover.behind(left, number, told)
    return tuple(hearing)


def lists_of(case, paper):
    """The lists of entries of a right Book or Ring; BadPaper for any other value."""
    if isinstance(paper, Book) and is_right_book(case, paper.layers):
        return paper.layers
    if isinstance(paper, Endless) and is_right_ring(case, paper.table):
        return (paper.table,)
    raise BadPaper("paper")


def carried_book(case, book, other):
    """A right Book of another case, in which more may be told, for as many questions."""
    want_case(case, "case")
    want_book(case, book, "book")
    want_case(other, "other")
    want_stock_and_wish(case, other)
    want_freer(case, other)
    return Book(carried_layers(Side(case, book.layers), other))


def put_together(one, book, other, more):
    """A right Book of two cases asked as one, for one question more than both Books together."""
    want_case(one, "one")
    want_book(one, book, "book")
    want_case(other, "other")
    want_book(other, more, "more")
    joined = two_asked(one, other)
    return Book(layers_of_two(Side(one, book.layers), Side(other, more.layers), joined, len(other.rule.rows)))
