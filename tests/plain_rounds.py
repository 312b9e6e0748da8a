"""Plain checks of rounds and prices by the words of the document, to compare the program with."""

from helpers import is_int
from plain import answers
from plain import ascending
from plain import freer_pairs
from plain import is_situation
from plain import no_freer
from plain import numbers_of
from plain import settled
from plain import turned


def from_zero(value):
    return is_int(value) and value >= 0


def rows_of(table, size):
    return isinstance(table, tuple) and all(isinstance(row, tuple) and len(row) == size for row in table)


def each_once(table):
    return all(table.count(row) == 1 for row in table)


def right_round_plan(case, table, rounds, most):
    if not rows_of(table, 4):
        return False
    for situation, i, cost, numbers in table:
        if not is_situation(case, situation) or not from_zero(i) or not from_zero(cost) or not isinstance(numbers, tuple):
            return False
        if not all(is_int(n) and 0 <= n < len(case.stock.questions) for n in numbers):
            return False
    if not each_once(table) or not any(row[0] == case.firsts and row[1] <= rounds and row[2] <= most for row in table):
        return False
    for situation, i, cost, numbers in table:
        if settled(case, situation) != (numbers == ()):
            return False
        if numbers == ():
            continue
        if i == 0:
            return False
        for end in ends_of(case, situation, numbers):
            if not any(row[0] == end and row[1] < i and row[2] + len(numbers) <= cost for row in table):
                return False
    return True


def ends_of(case, situation, numbers):
    ends = {situation}
    for number in numbers:
        ends = {new for now in ends for told, new in answers(case, now, number)}
    return ends


def right_cloud(case, cloud):
    return isinstance(cloud, tuple) and cloud != () and all(is_situation(case, s) for s in cloud) and ascending(cloud)


def right_round_book(case, table, rounds, most):
    if not rows_of(table, 3):
        return False
    for cloud, i, j in table:
        if not right_cloud(case, cloud) or not is_int(i) or i < 1 or not from_zero(j):
            return False
    if not each_once(table) or not any(row[0] == (case.firsts,) and row[1] >= rounds and row[2] >= most for row in table):
        return False
    for cloud, i, j in table:
        if not any(not settled(case, end) and (i == 1 or any(row[0] == (end,) and row[1] >= i - 1 and row[2] >= j for row in table))
                   for end in cloud):
            return False
        if j > 0:
            for number in numbers_of(case):
                new = turned(case, cloud, number)
                if not any(set(row[0]) <= set(new) and row[1] >= i and row[2] >= j - 1 for row in table):
                    return False
    return True


def right_round_ring(case, table, rounds):
    if not rows_of(table, 2):
        return False
    for cloud, i in table:
        if not right_cloud(case, cloud) or not is_int(i) or i < 1:
            return False
    if not each_once(table) or not any(row[0] == (case.firsts,) and row[1] >= rounds for row in table):
        return False
    for cloud, i in table:
        if not any(not settled(case, end) and (i == 1 or any(row[0] == (end,) and row[1] >= i - 1 for row in table)) for end in cloud):
            return False
        for number in numbers_of(case):
            new = turned(case, cloud, number)
            if not any(set(row[0]) <= set(new) and row[1] >= i for row in table):
                return False
    return True


def right_price_plan(case, prices, table, most, coins):
    if not rows_of(table, 4):
        return False
    for situation, j, c, number in table:
        if not is_situation(case, situation) or not from_zero(j) or not from_zero(c):
            return False
        if number is not None and (not is_int(number) or not 0 <= number < len(case.stock.questions)):
            return False
    if not each_once(table) or not any(row[0] == case.firsts and row[1] <= most and row[2] <= coins for row in table):
        return False
    for situation, j, c, number in table:
        if settled(case, situation) != (number is None):
            return False
        if number is not None:
            for told, new in answers(case, situation, number):
                if not any(row[0] == new and row[1] < j and row[2] <= c - prices[number] for row in table):
                    return False
    return True


def right_price_book(case, prices, table, most, coins):
    if not rows_of(table, 4):
        return False
    for situation, j, b, told in table:
        if not is_situation(case, situation) or not from_zero(j) or not from_zero(b) or settled(case, situation):
            return False
        if not isinstance(told, tuple) or len(told) != len(prices) or not all(one is None or is_int(one) for one in told):
            return False
    if not each_once(table):
        return False
    pairs = freer_pairs(case.rule, case.rule)
    if not any(no_freer(pairs, row[0], case.firsts) and row[1] >= most and row[2] >= coins for row in table):
        return False
    for situation, j, b, told in table:
        for number, price in enumerate(prices):
            if j == 0 or price > b:
                if told[number] is not None:
                    return False
                continue
            behind = dict(answers(case, situation, number))
            if told[number] not in behind:
                return False
            new = behind[told[number]]
            if not any(no_freer(pairs, row[0], new) and row[1] >= j - 1 and row[2] >= b - price for row in table):
                return False
    return True


def settled_in_coins(case, prices, situation, most, coins, known):
    """Whether so many questions and coins do: a plain trial of all questions."""
    if settled(case, situation):
        return True
    if most == 0:
        return False
    key = (situation, most, coins)
    if key not in known:
        known[key] = any(price <= coins and all(settled_in_coins(case, prices, new, most - 1, coins - price, known)
                                                for told, new in answers(case, situation, number))
                         for number, price in enumerate(prices))
    return known[key]
