"""Kinds of classes: classes on the ties of a web that have kin webs."""

from itertools import permutations

from signrounds.base import renamed_by, same_ties
from signrounds.checks import need_small_web
from signrounds.forests import form_by_number, form_number, outer_list

MOST_FOR_LEAST = 6
MOST_FOR_KINDS = 5


def tie_rows(web):
    """The rows by which the web renamed has the same ties."""
    return [row for row in permutations(range(len(web))) if same_ties(renamed_by(web, row), web)]


def kin_numbers(web, rows):
    """The numbers of the classes of the web renamed by each of these rows."""
    return [form_number(renamed_by(web, row)) for row in rows]


def least_kin(web):
    """The form of the class with the least number that is of the kind of the web's class."""
    need_small_web(web, MOST_FOR_LEAST)
    return form_by_number(web, min(kin_numbers(web, tie_rows(web))))


def kind_count(web):
    """How many kinds of classes there are on the ties of the web."""
    need_small_web(web, MOST_FOR_KINDS)
    rows = tie_rows(web)
    seen = set()
    kinds = 0
    for number in range(1 << len(outer_list(web))):
        if number not in seen:
            kinds += 1
            for other in kin_numbers(form_by_number(web, number), rows):
                seen.add(other)
    return kinds
