"""The checker of like papers: it seeks nothing, and what it lets by is so."""

from swapsums.errors import NoPaper
from swapsums.formal import are_factors, formal_added, formal_of, formal_times
from swapsums.plain import is_pair, is_whole
from swapsums.ratios import is_ratio
from swapsums.rules import is_rule, is_small, is_step, rule_sum
from swapsums.sums import scaled, sum_of
from swapsums.values import told_at

MOST_ROWS = 600
MOST_FACTORS = 8
MOST_VALUES = 5
GREATEST_VALUE = 9


def lets_like(one, other, thing):
    """The word with which any plain thing is a like paper of two TELLINGs, or NoPaper."""
    if not is_pair(thing) or not isinstance(thing[1], tuple):
        raise NoPaper("shape", -1)
    word, told = thing
    if word == "alike" and len(told) <= MOST_ROWS:
        return lets_rows(one, other, told)
    if word == "unlike" and are_values(told):
        return lets_values(one, other, told)
    raise NoPaper("shape", -1)


def are_values(things):
    """Whether a tuple of plain things is values of a like paper."""
    return len(things) <= MOST_VALUES and all(is_whole(value) and 0 <= value <= GREATEST_VALUE for value in things)


def is_like_row(thing):
    """Whether any plain thing is a row of a like paper."""
    if not isinstance(thing, tuple) or len(thing) != 4:
        return False
    word, rule, factors, number = thing
    return is_rule(word, rule) and are_small_factors(factors) and is_ratio(number)


def are_small_factors(thing):
    """Whether any plain thing is FACTORS that a row may have."""
    if not are_factors(thing) or len(thing) > MOST_FACTORS:
        return False
    return all(is_step(part) or is_small(part) for word, part in thing)


def lets_rows(one, other, rows):
    """The word alike where rows add up to the one TELLING less the other, else NoPaper."""
    for k, row in enumerate(rows):
        if not is_like_row(row):
            raise NoPaper("row", k)
    terms = []
    for row in rows:
        terms.extend(row_sum(row))
    if sum_of(terms) != difference(one, other):
        raise NoPaper("sum", -1)
    return "alike"


def row_sum(row):
    """The FORMAL SUM of a row: its rule multiplied by its FACTORS and its RATIO."""
    word, rule, factors, number = row
    return formal_times(rule_sum(word, rule), ((factors, number),))


def difference(one, other):
    """The FORMAL SUM of the one TELLING less that of the other."""
    return formal_added(formal_of(one), scaled((-1, 1), formal_of(other)))


def lets_values(one, other, values):
    """The word unlike where two TELLINGs don't come to the same at these values, else NoPaper."""
    ratios = tuple((value, 1) for value in values)
    if told_at(one, ratios) == told_at(other, ratios):
        raise NoPaper("values", -1)
    return "unlike"
