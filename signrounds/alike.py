"""Webs that turnings lead to one another, the form that tells them, and webs that are kin."""

from itertools import permutations

from signrounds.base import product_of, renamed_by, same_ties, sign_of_ring
from signrounds.camps import camps
from signrounds.checks import need_few, need_small_web, need_two_webs, need_web
from signrounds.errors import NotAlike
from signrounds.forests import form_of, some_bad_ring
from signrounds.kinds import is_round_of

MOST_FOR_KIN = 7


def alike(web, other_web):
    """Whether two webs are alike."""
    return same_ties(web, other_web) and form_of(web) == form_of(other_web)


def need_same_ties(web, other_web):
    """NotAlike(()) unless both webs have the same ties."""
    if not same_ties(web, other_web):
        raise NotAlike(())


def are_alike(web, other_web):
    """Whether both webs have the same ties, and one of them, turned by some lot, is the other one."""
    need_two_webs(web, other_web)
    return alike(web, other_web)


def product(web, other_web):
    """The web of the same ties with a friend where both have the same sign, otherwise a foe."""
    need_two_webs(web, other_web)
    need_same_ties(web, other_web)
    return product_of(web, other_web)


def turning_between(web, other_web):
    """The first lot, in lot order, that leads from the web to the other one."""
    return turnings_between(web, other_web)[0]


def turnings_between(web, other_web):
    """All lots, in lot order, that lead from the web to the other one."""
    need_two_webs(web, other_web)
    need_same_ties(web, other_web)
    both = product_of(web, other_web)
    ring = some_bad_ring(both)
    if ring is not None:
        raise NotAlike(ring)
    # A lot leads from one to the other exactly if it is a camp of their product.
    return camps(both)


def unlike_ring(web, other_web):
    """A round that is bad in just one of the webs; None if there is none."""
    need_two_webs(web, other_web)
    need_same_ties(web, other_web)
    return some_bad_ring(product_of(web, other_web))


def is_unlike_ring(web, other_web, value):
    """Whether any value is a round that is bad in just one of two webs with the same ties."""
    need_two_webs(web, other_web)
    if not same_ties(web, other_web) or not is_round_of(web, value):
        return False
    return sign_of_ring(web, value) != sign_of_ring(other_web, value)


def form(web):
    """The web alike with it in which all ties of first_forest are friends."""
    need_web(web)
    return form_of(web)


def form_turning(web):
    """The first lot, in lot order, that leads from the web to its form."""
    need_web(web)
    return turning_between(web, form_of(web))


def kin_row(web, other_web):
    """The first row by which the web renamed is alike with the other one; None if there is none."""
    need_two_webs(web, other_web)
    need_few(web, MOST_FOR_KIN)
    need_few(other_web, MOST_FOR_KIN)
    if len(web) == len(other_web):
        for row in permutations(range(len(web))):
            if alike(renamed_by(web, row), other_web):
                return row
    return None


def kin_count(web):
    """By how many rows the web renamed is alike with the web."""
    need_small_web(web, MOST_FOR_KIN)
    return len([row for row in permutations(range(len(web))) if alike(renamed_by(web, row), web)])
