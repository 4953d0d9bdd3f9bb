"""Webs put together, parted, and drawn together."""

from signrounds.base import drawn_into, inner_web, others_of, tied_across, told_ring, turned_at, web_of_rows
from signrounds.base import with_sign
from signrounds.checks import need_place, need_room, need_sign, need_tie, need_two_webs, need_web
from signrounds.errors import InvalidPlace, InvalidSigns, NotBalanced
from signrounds.kinds import is_row_of


def joined_at(web, other_web, place, spot):
    """Both webs with the place of the first and the spot of the other one as one."""
    need_two_webs(web, other_web)
    need_place(web, place)
    need_place(other_web, spot)
    need_room(len(web) + len(other_web) - 1)
    left = others_of(other_web, (spot,))
    rows = [list(row) for row in tied_across(web, [0] * len(web), inner_web(other_web, left))]
    for at, one in enumerate(left):
        rows[place][len(web) + at] = rows[len(web) + at][place] = other_web[spot][one]
    return web_of_rows(rows)


def joined_all(web, other_web, sign):
    """Both webs beside one another, each place of the one tied with each of the other by this sign."""
    need_two_webs(web, other_web)
    need_sign(sign)
    need_room(len(web) + len(other_web))
    return tied_across(web, [sign] * len(web), other_web)


def put_in(web, place, other_web):
    """The web with the other one in the place of this place, each of its places tied as the place was."""
    need_web(web)
    need_place(web, place)
    need_web(other_web)
    need_room(len(web) + len(other_web) - 1)
    left = others_of(web, (place,))
    return tied_across(inner_web(web, left), [web[place][one] for one in left], other_web)


def parted_tie(web, tie):
    """The web with a further place that is tied with both ends in the place of the tie."""
    need_web(web)
    need_tie(web, tie)
    need_room(len(web) + 1)
    x, y = tie
    signs = [0] * len(web)
    signs[x], signs[y] = 1, web[x][y]
    return tied_across(with_sign(web, x, y, 0), signs, ((0,),))


def with_place(web, signs):
    """The web with a further place that has these signs to the others."""
    need_web(web)
    if not is_row_of(signs, len(web), (1, -1, 0)):
        raise InvalidSigns("this is no tuple of a sign, or 0, for each place")
    need_room(len(web) + 1)
    return tied_across(web, signs, ((0,),))


def less_place(web, place):
    """The web without the place."""
    need_web(web)
    need_place(web, place)
    if len(web) == 1:
        raise InvalidPlace("a web has a place at least")
    return inner_web(web, others_of(web, (place,)))


def drawn(web, tie):
    """The web with the greater end of the tie drawn into the lesser one, the tie being a friend."""
    need_web(web)
    need_tie(web, tie)
    x, y = tie
    for place in others_of(web, tie):
        if web[x][y] * web[x][place] * web[y][place] < 0:
            raise NotBalanced(told_ring((x, y, place)))
    return drawn_into(web if web[x][y] > 0 else turned_at(web, (y,)), x, y)


def trimmed(web):
    """The lot of the places that are left if places with at most one tie go as long as there are any."""
    need_web(web)
    lot, more = (), tuple(range(len(web)))
    while lot != more:
        lot = more
        more = tuple([place for place in lot if len([one for one in lot if web[place][one] != 0]) > 1])
    return lot
