"""Ties that hold the trouble of a web, and webs without a tie that is idle."""

from signrounds.base import tie_list, without_ties
from signrounds.checks import need_web
from signrounds.lots import least_cure_list, trouble_of


def kind_list(web):
    """The kinds of the ties, in their sequence."""
    cures = least_cure_list(web)
    told = []
    for tie in tie_list(web):
        many = len([cure for cure in cures if tie in cure])
        told.append("idle" if many == 0 else "held" if many == len(cures) else "loose")
    return told


def tie_kinds(web):
    """The tuple of the kinds of the ties, in their sequence."""
    need_web(web)
    return tuple(kind_list(web))


def is_tight(web):
    """Whether no tie is idle."""
    need_web(web)
    return "idle" not in kind_list(web)


def tight_part(web):
    """A tight web of some or all of the ties that has the same trouble."""
    need_web(web)
    least = trouble_of(web)
    # A tie that is needed stays so when others go later, so each one is tried once.
    for tie in tie_list(web):
        fewer = without_ties(web, [tie])
        if trouble_of(fewer) == least:
            web = fewer
    return web
