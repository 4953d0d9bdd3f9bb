"""Signed webs: their ties, pieces and rounds, webs made from webs, and their texts."""

from signrounds.base import foe_list, inner_web, piece_list, renamed_by, ring_list, ring_tie_list
from signrounds.base import sign_of_ring, tie_list, tied_across, told_ring, turned_at, web_of_rows, with_sign
from signrounds.checks import need_closed_row, need_lot, need_naming, need_other_place, need_place, need_ring
from signrounds.checks import need_room, need_sign, need_sign_or_none, need_small_web, need_tie, need_two_webs
from signrounds.checks import need_web
from signrounds.errors import InvalidLot, InvalidText, Refused
from signrounds.forests import forest_list
from signrounds.kinds import MOST_PLACES, is_round_of, is_signed_web

MOST_FOR_RINGS = 7
LETTERS = "-.+"


def is_web(value):
    """Whether any value is a signed web."""
    return is_signed_web(value)


def ties(web):
    """The ascending list of the ties."""
    need_web(web)
    return tie_list(web)


def foes(web):
    """The ascending list of the foes."""
    need_web(web)
    return foe_list(web)


def neighbours(web, place, sign=0):
    """The lot of the places tied with the place, by this sign if it is not 0."""
    need_web(web)
    need_place(web, place)
    need_sign_or_none(sign)
    wanted = (1, -1) if sign == 0 else (sign,)
    return tuple([other for other in range(len(web)) if web[place][other] in wanted])


def turned(web, lot):
    """The web in which each place of the lot is turned."""
    need_web(web)
    need_lot(web, lot)
    return turned_at(web, lot)


def changed(web, tie):
    """The web in which this tie has the other sign."""
    need_web(web)
    need_tie(web, tie)
    x, y = tie
    return with_sign(web, x, y, -web[x][y])


def opposite(web):
    """The web in which all ties have the other sign."""
    need_web(web)
    return web_of_rows([[-sign for sign in row] for row in web])


def with_tie(web, place, other_place, sign):
    """The web with this tie more."""
    need_web(web)
    need_place(web, place)
    need_other_place(web, place, other_place)
    need_sign(sign)
    if web[place][other_place] != 0:
        raise Refused("the two places are tied")
    return with_sign(web, place, other_place, sign)


def less_tie(web, tie):
    """The web without this tie."""
    need_web(web)
    need_tie(web, tie)
    x, y = tie
    return with_sign(web, x, y, 0)


def pieces(web, lot=()):
    """The ascending list of the pieces without the lot."""
    need_web(web)
    need_lot(web, lot)
    return piece_list(web, lot)


def inner(web, lot):
    """The web of the places of the lot, numbered by their indexes in it."""
    need_web(web)
    need_lot(web, lot)
    if lot == ():
        raise InvalidLot("a web has a place at least")
    return inner_web(web, lot)


def renamed(web, row):
    """The web in which the place x is called row[x]."""
    need_web(web)
    need_naming(web, row)
    return renamed_by(web, row)


def beside(web, other_web):
    """Both webs as one, the places of the other one behind those of the first."""
    need_two_webs(web, other_web)
    need_room(len(web) + len(other_web))
    return tied_across(web, [0] * len(web), other_web)


def first_forest(web):
    """The ties that are taken, ascending, if each is taken that closes no round with those taken."""
    need_web(web)
    return forest_list(web)


def is_ring(web, value):
    """Whether any value is a round of the web."""
    need_web(web)
    return is_round_of(web, value)


def ring_told(web, row):
    """The round whose places the row has in their sequence, wherever and whichever way it begins."""
    need_web(web)
    need_closed_row(web, row)
    return told_ring(row)


def ring_ties(web, ring):
    """The ascending tuple of the ties of the round."""
    need_web(web)
    need_ring(web, ring)
    return tuple(ring_tie_list(ring))


def ring_sign(web, ring):
    """The sign of the round."""
    need_web(web)
    need_ring(web, ring)
    return sign_of_ring(web, ring)


def rings(web):
    """All rounds, those of fewer places first."""
    need_small_web(web, MOST_FOR_RINGS)
    return ring_list(web)


def bad_rings(web):
    """All bad rounds, those of fewer places first."""
    need_small_web(web, MOST_FOR_RINGS)
    return [ring for ring in ring_list(web) if sign_of_ring(web, ring) < 0]


def web_text(web):
    """The text of the web."""
    need_web(web)
    return "/".join(["".join([LETTERS[sign + 1] for sign in row]) for row in web])


def first_line_length(text):
    """How many places a web has whose text begins like this one, as far as that is told."""
    at = text.find("/")
    return min(len(text) if at < 0 else at, MOST_PLACES)


def letters_at(text, many, index):
    """What may stand at the index of a text of so many lines that goes right up to there."""
    x, y = divmod(index, many + 1)
    if x >= many or (x == many - 1 and y == many):
        return ""
    if y == many:
        return "/"
    if y > x:
        return LETTERS
    return "." if x == y else text[y * (many + 1) + x]


def web_told(text):
    """The web with this text."""
    if not isinstance(text, str):
        raise InvalidText(0)
    many = first_line_length(text)
    for index, letter in enumerate(text):
        if letter not in letters_at(text, many, index):
            raise InvalidText(index)
    if many == 0 or len(text) < many * many + many - 1:
        raise InvalidText(len(text))
    return web_of_rows([[LETTERS.find(one) - 1 for one in line] for line in text.split("/")])
