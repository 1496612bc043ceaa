"""Like papers: that two TELLINGs are ONE, or aren't."""

from swapsums.leading import are_one, to_shapes
from swapsums.letters import value_of
from swapsums.likechecker import difference, row_sum
from swapsums.meaning import meant, without
from swapsums.ratios import NOUGHT, over
from swapsums.rules import rule_sum
from swapsums.shapes import size_of
from swapsums.sums import added, greatest_size, number_at, scaled


def like_paper(one, other):
    """A like paper of two TELLINGs that the like checker lets by."""
    if are_one(one, other):
        return ("alike", alike_rows(difference(one, other)))
    return ("unlike", parting_values(one, other))


def alike_rows(formal):
    """Rows that add up to a FORMAL SUM that means nought."""
    rows = []
    left = formal
    # What is led to powers alone and means nought is nought, so something to lead is there as long as anything is.
    while left:
        # Each rule leaves less to lead, so no FACTORS come again, and the rows stay few.
        factors, number = max(left, key=lambda pair: to_lead(pair[0]))
        row = leading_row(factors, number)
        rows.append(row)
        left = added(left, scaled((-1, 1), row_sum(row)))
    return tuple(rows)


def to_lead(factors):
    """How much of FACTORS isn't led to powers yet: what a rule leaves of them has less."""
    return sum([factor_to_lead(word, part) for word, part in factors])


def factor_to_lead(word, part):
    """How much of a FACTOR isn't led to powers yet."""
    if word == "power":
        return 0
    if word in ("choice", "repeat"):
        return part
    # A table becomes repeats of the same size, a shape shapes of no greater size with fewer parts.
    return size_of(part) + len(part)


def leading_row(factors, number):
    """The row that has FACTORS times this number, and else only such as have less to lead."""
    factor = max(factors, key=lambda one: factor_to_lead(one[0], one[1]))
    word, thing = rule_for(factor)
    share = over(number, number_at(rule_sum(word, thing), (factor,)))
    return (word, thing, without(factors, factor), share)


def rule_for(factor):
    """The RULE that leads a FACTOR towards powers."""
    word, part = factor
    if word == "table":
        return ("table", part)
    if word == "shape":
        return ("shape", (part[-1], part[:-1]))
    return ("power-" + word, part)


def parting_values(one, other):
    """Values at which two TELLINGs that aren't ONE differ."""
    apart = added(to_shapes(one[0], one[1]), scaled((-1, 1), to_shapes(other[0], other[1])))
    # A POLY in which no letter has a power above n, and that isn't nought, isn't so at all values from 0 to n.
    n = greatest_size(apart)
    poly = meant("shapes", apart, n)
    for values in rising_values(n):
        if value_of(poly, tuple((value, 1) for value in values)) != NOUGHT:
            return values
    return None


def rising_values(n):
    """All tuples of n whole numbers from 0 to n, none less than the one ahead."""
    grown = [()]
    for place in range(n):
        grown = [values + (value,) for values in grown for value in range(max((0,) + values), n + 1)]
    return grown
