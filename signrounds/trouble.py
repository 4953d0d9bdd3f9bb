"""Trouble: the fewest wrong ties of a lot, the ties that cure a web, and bad rounds without common ties."""

from signrounds.base import ring_list, ring_tie_list, sign_of_ring, tie_list, without_ties
from signrounds.checks import need_lot, need_number, need_sign, need_small_web, need_tie, need_ties, need_web
from signrounds.forests import some_bad_ring
from signrounds.kinds import is_round_of
from signrounds.lots import best_camp_list, least_cure_list, trouble_of, wrong_list, wrong_table

MOST_FOR_APART = 6


def trouble(web):
    """The least number of wrong ties of a lot."""
    need_web(web)
    return trouble_of(web)


def wrong_ties(web, lot):
    """The ascending tuple of the ties that are foes in the web turned at the lot."""
    need_web(web)
    need_lot(web, lot)
    return tuple(wrong_list(web, lot))


def best_camp_count(web):
    """How many lots have as few wrong ties as the trouble."""
    need_web(web)
    return len(best_camp_list(web))


def nth_best_camp(web, number):
    """The best camp with this index in lot order; None if there are not so many."""
    need_web(web)
    need_number(number)
    lots = best_camp_list(web)
    return lots[number] if number < len(lots) else None


def is_cure(web, ties):
    """Whether the web without the ties is balanced."""
    need_web(web)
    need_ties(web, ties)
    return some_bad_ring(without_ties(web, ties)) is None


def least_cures(web):
    """The ascending list of all cures of the fewest ties."""
    need_web(web)
    return least_cure_list(web)


def least_bearing(web, tie, sign):
    """The least number of foes of the turned webs in which the tie bears the sign."""
    need_web(web)
    need_tie(web, tie)
    need_sign(sign)
    x, y = tie
    crosses = web[x][y] != sign
    return min([wrong for lot, wrong in wrong_table(web) if ((x in lot) != (y in lot)) == crosses])


def is_apart(web, value):
    """Whether any value is a list of bad rounds no two of which have a common tie."""
    need_web(web)
    if not isinstance(value, list) or not all([is_round_of(web, ring) for ring in value]):
        return False
    if not all([sign_of_ring(web, ring) < 0 for ring in value]):
        return False
    inside = [tie for ring in value for tie in ring_tie_list(ring)]
    return len(set(inside)) == len(inside)


def bad_rounds_by_first(web):
    """The bad rounds by the first of their ties, each with its ties, both told as figures to the base 2."""
    worth = {tie: 1 << at for at, tie in enumerate(tie_list(web))}
    starting = {}
    for ring in ring_list(web):
        if sign_of_ring(web, ring) < 0:
            figures = sum([worth[tie] for tie in ring_tie_list(ring)])
            starting.setdefault(figures & -figures, []).append((figures, ring))
    return starting


def most_rounds(starting, left, known):
    """As many bad rounds of the ties left as can be, no two with a common tie; known keeps what was found."""
    if left == 0:
        return ()
    if left not in known:
        first = left & -left
        best = most_rounds(starting, left - first, known)
        for figures, ring in starting.get(first, []):
            if figures & left == figures:
                more = most_rounds(starting, left - figures, known)
                if len(more) >= len(best):
                    best = (ring,) + more
        known[left] = best
    return known[left]


def most_apart(web):
    """As many bad rounds as can be, no two of which have a common tie."""
    need_small_web(web, MOST_FOR_APART)
    everything = (1 << len(tie_list(web))) - 1
    return list(most_rounds(bad_rounds_by_first(web), everything, {}))
