"""Dyeings of a web with numbers and their opposites, and the two polynomials that count them."""

from signrounds.base import tie_list
from signrounds.checks import need_count, need_web
from signrounds.dye_rows import agree, first_row
from signrounds.kinds import is_whole_row
from signrounds.sizes import dye_polynomial, value_at


def is_dyed(web, row):
    """Whether no tie is wrong by the numbers of its ends."""
    return all([agree(web[x][y], row[x], row[y]) for x, y in tie_list(web)])


def has_width(row, count, nonzero):
    """Whether the numbers are from -count to count, none of them 0 if that is asked for."""
    return all([abs(number) <= count and (number != 0 or not nonzero) for number in row])


def count_of(polynomial, count, nonzero):
    """How many dyeings of this width the polynomial tells."""
    return value_at(polynomial, 2 * count if nonzero else 2 * count + 1)


def is_dyeing(web, count, value, nonzero=False):
    """Whether any value is a dyeing of this width, without a 0 if nonzero."""
    need_web(web)
    need_count(count)
    if not is_whole_row(value) or len(value) != len(web):
        return False
    return has_width(value, count, nonzero) and is_dyed(web, value)


def dyeing_count(web, count, nonzero=False):
    """How many dyeings of this width there are, without a 0 if nonzero."""
    need_web(web)
    need_count(count)
    return count_of(dye_polynomial(web, nonzero), count, nonzero)


def first_dyeing(web, count, nonzero=False):
    """The first dyeing of this width; None if there is none."""
    need_web(web)
    need_count(count)
    return first_row(web, count, nonzero)


def least_width(web, nonzero=False):
    """The least width for which there is a dyeing."""
    need_web(web)
    told = dye_polynomial(web, nonzero)
    width = 0
    while count_of(told, width, nonzero) == 0:
        width += 1
    return width


def polynomial(web, nonzero=False):
    """The polynomial that tells the numbers of dyeings at 2 * k + 1, or of those without a 0 at 2 * k."""
    need_web(web)
    return dye_polynomial(web, nonzero)
