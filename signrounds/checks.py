"""The errors of parameters: each function raises one unless its last argument is what it must be."""

from signrounds.errors import InvalidChoice, InvalidCount, InvalidLot, InvalidPlace, InvalidRing, InvalidRings
from signrounds.errors import InvalidRow, InvalidSign, InvalidSigns, InvalidTable, InvalidThrees, InvalidTie
from signrounds.errors import InvalidTies, InvalidWalk, InvalidWeb, InvalidWeights, TooMany
from signrounds.kinds import MOST_PLACES, is_choice_of, is_closed_row_of, is_lot_of, is_naming_of, is_place_of
from signrounds.kinds import is_plain_table, is_round_of, is_round_row_of, is_sign, is_sign_row, is_signed_web
from signrounds.kinds import is_three_set, is_tie_of, is_tie_set_of, is_walk_of, is_weight_row, is_whole

MOST_COUNT = 1000


def need_web(web):
    if not is_signed_web(web):
        raise InvalidWeb("this is no signed web")


def need_two_webs(web, other_web):
    need_web(web)
    need_web(other_web)


def need_few(web, most):
    """TooMany unless the web has at most so many places."""
    if len(web) > most:
        raise TooMany(most)


def need_room(many):
    """TooMany unless a web can have so many places."""
    if many > MOST_PLACES:
        raise TooMany(MOST_PLACES)


def need_small_web(web, most):
    need_web(web)
    need_few(web, most)


def need_tie(web, tie):
    if not is_tie_of(web, tie):
        raise InvalidTie("this is no tie of the web")


def need_ties(web, ties):
    if not is_tie_set_of(web, ties):
        raise InvalidTies("this is no ascending tuple of ties of the web")


def need_place(web, place):
    if not is_place_of(web, place):
        raise InvalidPlace("this is no place of the web")


def need_other_place(web, place, other_place):
    need_place(web, other_place)
    if other_place == place:
        raise InvalidPlace("this is the same place again")


def need_lot(web, lot):
    if not is_lot_of(web, lot):
        raise InvalidLot("this is no lot of places of the web")


def need_sign(sign):
    if not is_sign(sign):
        raise InvalidSign("a sign is 1 or -1")


def need_sign_or_none(sign):
    if not is_whole(sign) or sign not in (1, -1, 0):
        raise InvalidSign("the sign is 1, -1, or 0 for both")


def need_naming(web, row):
    if not is_naming_of(web, row):
        raise InvalidRow("the row has each place of the web once")


def need_closed_row(web, row):
    if not is_closed_row_of(web, row):
        raise InvalidRow("the row has the places of a round in their sequence")


def need_ring(web, ring):
    if not is_round_of(web, ring):
        raise InvalidRing("this is no round of the web")


def need_rings(web, rings):
    if not is_round_row_of(web, rings):
        raise InvalidRings("this is no tuple of at most 100 rounds of the web")


def need_signs(signs, many):
    if not is_sign_row(signs, many):
        raise InvalidSigns(f"this is no tuple of {many} signs")


def need_number(number):
    if not is_whole(number) or number < 0:
        raise InvalidCount("the number is an integer from 0 on")


def need_weights(weights, many):
    if not is_weight_row(weights, many):
        raise InvalidWeights(f"this is no tuple of {many} integers from 0 to 1,000,000")


def need_many(many):
    if not is_whole(many) or not 1 <= many <= MOST_PLACES:
        raise InvalidCount("a web has 1 to 10 places")


def need_threes(many, threes):
    if not is_three_set(threes, many):
        raise InvalidThrees("this is no ascending tuple of lots of three places")


def need_count(count):
    if not is_whole(count) or not 0 <= count <= MOST_COUNT:
        raise InvalidCount("the count is an integer from 0 to 1,000")


def need_choice(web, choice):
    if not is_choice_of(web, choice):
        raise InvalidChoice("a choice has 1 or -1 for each tie of the web")


def need_table(table):
    if not is_plain_table(table):
        raise InvalidTable("this is no plain table")


def need_walk(table, walk):
    if not is_walk_of(table, walk):
        raise InvalidWalk("a walk has one place or more, neighbours tied")
