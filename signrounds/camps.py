"""Camps of a web, or a bad round that shows that there is none."""

from signrounds.base import inner_web, lot_order, piece_list, sides_of, sign_of_ring, turned_by, web_of_rows
from signrounds.checks import need_lot, need_web
from signrounds.errors import NotBalanced
from signrounds.forests import side_list, some_bad_ring
from signrounds.kinds import is_round_of


def need_balanced(web):
    """NotBalanced, with a bad round, if there is one."""
    ring = some_bad_ring(web)
    if ring is not None:
        raise NotBalanced(ring)


def is_balanced(web):
    """Whether the web has a camp."""
    need_web(web)
    return some_bad_ring(web) is None


def is_camp(web, lot):
    """Whether just the ties with exactly one end in the lot are foes."""
    need_web(web)
    need_lot(web, lot)
    return by_sides(web, sides_of(web, lot)) == web


def camp(web):
    """The camp that has the least place of each piece."""
    need_web(web)
    need_balanced(web)
    return tuple([place for place, side in enumerate(side_list(web)) if side > 0])


def camps(web):
    """All camps in lot order."""
    need_web(web)
    need_balanced(web)
    sides = side_list(web)
    lots = [()]
    for piece in piece_list(web):
        half = tuple([place for place in piece if sides[place] > 0])
        rest = tuple([place for place in piece if sides[place] < 0])
        lots = [lot + part for lot in lots for part in (half, rest)]
    return sorted([tuple(sorted(lot)) for lot in lots], key=lot_order)


def bad_ring(web):
    """A bad round; None if there is none."""
    need_web(web)
    return some_bad_ring(web)


def is_bad_ring(web, value):
    """Whether any value is a bad round of the web."""
    need_web(web)
    return is_round_of(web, value) and sign_of_ring(web, value) < 0


def balanced_pieces(web):
    """The ascending list of the balanced pieces."""
    need_web(web)
    return [piece for piece in piece_list(web) if some_bad_ring(inner_web(web, piece)) is None]


def by_sides(web, sides):
    """The web with these ties whose foes are just those between the two sides, 1 and -1."""
    return turned_by(web_of_rows([[abs(sign) for sign in row] for row in web]), sides)


def by_camp(web, lot):
    """The web with the same ties of which the lot is a camp."""
    need_web(web)
    need_lot(web, lot)
    return by_sides(web, sides_of(web, lot))
