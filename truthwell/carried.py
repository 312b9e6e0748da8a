"""Plans carried to cases in which less can be told."""

from truthwell.case_wants import want_case
from truthwell.errors import NotFreer
from truthwell.errors import Unlike
from truthwell.moves import Mover
from truthwell.moves import is_done
from truthwell.plans import Plan
from truthwell.plans import want_plan
from truthwell.two_stands import walked


def carried(case, plan, other):
    """A right Plan of the other case, whose depth is at most that of the plan."""
    want_case(case, "case")
    want_plan(case, plan)
    want_case(other, "other")
    want_stock_and_wish(case, other)
    want_freer(other, case)
    rows = {row[0]: row for row in plan.table}
    followed = followed_rows(case, rows, other)
    return Plan(sorted(rows_led_to(other, followed)))


def want_stock_and_wish(case, other):
    """Raises Unlike for two cases whose stocks or wishes are not the same."""
    if case.stock != other.stock:
        raise Unlike("stock")
    if case.wish != other.wish:
        raise Unlike("wish")


def want_freer(one, other):
    """Raises NotFreer with the first thing whose first stand in the one is not no freer than in the other."""
    for thing in range(one.things):
        if walked(one.rule, one.firsts[thing], other.rule, other.firsts[thing], False)[1] is not None:
            raise NotFreer(thing)


def followed_rows(case, rows, other):
    """For each situation that is left in the other case, where the plan is followed by what is told
    there, the row that is followed: of several the one of the least rank.

    What is behind a row of a lesser rank has lesser ranks, too; so only the least one counts, and
    the ranks fall on each way.
    """
    there = Mover(case)
    here = Mover(other)
    best = {}
    waiting = [(other.firsts, case.firsts)]
    while waiting:
        left, freer = waiting.pop()
        row = rows[freer]
        if left not in best or row[1] < best[left][1]:
            best[left] = row
            number = row[2]
            if number is not None and not is_done(other, left):
                waiting.extend([(behind, there.behind(freer, number, told))
                                for told, behind in here.answers(left, number)])
    return best


def rows_led_to(case, followed):
    """The rows of the plan that follows these ones."""
    mover = Mover(case)
    rows = []
    seen = {case.firsts: True}
    waiting = [case.firsts]
    while waiting:
        situation = waiting.pop()
        settled = is_done(case, situation)
        rows.append((situation, 0, None) if settled else (situation,) + followed[situation][1:])
        for told, behind in [] if settled else mover.answers(situation, followed[situation][2]):
            if behind not in seen:
                seen[behind] = True
                waiting.append(behind)
    return rows
