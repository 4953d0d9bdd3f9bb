"""Webs that joining and live webs make, the same in each run."""

from signrounds.errors import NotBalanced
from signrounds.joining import drawn, joined_all, joined_at, less_place, parted_tie, put_in, trimmed, with_place
from signrounds.live import Live
from signrounds.webs import changed, inner
from tests.plain_live import Plain, answer_or_error, drawn_deed
from tests.samples import Draw, circle_web, full_web, pairs_tied

MOST_EACH = 40


def joined_webs(draw, web, other):
    """Webs that joining makes of two, of at most ten places."""
    place, spot = draw.below(len(web)), draw.below(len(other))
    if len(web) + len(other) < 12:
        yield joined_at(web, other, place, spot)
        yield put_in(web, place, other)
    if len(web) + len(other) < 11:
        yield joined_all(web, other, draw.one((1, -1)))
    if len(web) < 10:
        yield with_place(web, tuple(draw.one((1, 0, -1)) for _ in web))
    if len(web) > 1:
        yield less_place(web, place)
    for tie in pairs_tied(web)[::3]:
        if len(web) < 10:
            yield parted_tie(web, tie)
        try:
            yield drawn(web, tie)
        except NotBalanced:
            pass
    if trimmed(web):
        yield inner(web, trimmed(web))


def live_webs(draw, web, many):
    """Webs and views of a live web behind so many deeds."""
    live, plain = Live(web), Plain(web)
    while len(live.deeds) < many:
        deed = drawn_deed(draw, plain.last(), False, 0)
        if answer_or_error(plain.do, deed)[0] == "told":
            live.perform(deed)
            yield live.web
            yield live.view


def made_webs():
    """By their number of places, webs that joining and live webs made."""
    draw = Draw(1201)
    told = {many: {} for many in range(1, 11)}
    starts = [draw.web(many, tied) for many in range(1, 7) for tied in (40, 70, 100)] + [circle_web(4, True)]
    for web in starts:
        for other in starts[::2]:
            for one in joined_webs(draw, web, other):
                told[len(one)][one] = True
        for one in live_webs(draw, web, 12):
            told[len(one)][one] = True
    for one in live_webs(draw, draw.web(9, 50), 20):
        told[len(one)][one] = True
    return {many: list(several)[::-(-len(several) // MOST_EACH) or 1] for many, several in told.items()}


def made_all_tied():
    """By their number of places, webs all of whose places are tied that joining and live webs made."""
    draw = Draw(1202)
    told = {many: [] for many in range(1, 11)}
    # Five foes in a round, all others friends, and a place tied with all: each two are in two bad threes.
    five = full_web(5, 1)
    for x, y in ((0, 1), (1, 2), (2, 3), (3, 4), (0, 4)):
        five = changed(five, (x, y))
    told[6] += [with_place(five, (1,) * 5), with_place(five, (-1,) * 5), joined_all(full_web(1, 1), five, 1)]
    for web in (full_web(1, 1), full_web(2, -1), full_web(3, -1), draw.resigned(full_web(4, 1))):
        for other in (full_web(1, 1), full_web(3, -1), draw.resigned(full_web(5, 1)), full_web(6, -1)):
            for one in (joined_all(web, other, 1), joined_all(web, other, -1)):
                told[len(one)].append(one)
                live = Live(one)
                for x, y in pairs_tied(one)[::2]:
                    live.flip(x, y)
                live.turn((0,))
                told[len(one)] += [live.web, live.view, with_place(live.web, tuple(1 - 2 * draw.below(2) for _ in one))
                                   if len(one) < 10 else live.view]
    return {many: [web for web in several if len(web) == many] for many, several in told.items()}
