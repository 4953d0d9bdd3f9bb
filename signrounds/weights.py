"""Free weights, told by determinants of the tie table, and the number of trees."""

from signrounds.base import web_of_rows
from signrounds.checks import need_lot, need_web
from signrounds.lots import lot_list


def table_of(web):
    """The tuple of rows that has the numbers of ties, and the signs turned about."""
    rows = [[-sign for sign in row] for row in web]
    for place, row in enumerate(web):
        rows[place][place] = sum([abs(sign) for sign in row])
    return web_of_rows(rows)


def determinant(rows):
    """The determinant of a tie table without some rows and the columns of the same numbers."""
    rows = [list(row) for row in rows]
    ahead = 1
    for at in range(len(rows)):
        pivot = rows[at][at]
        # The squares that such a table sums leave nothing beside a 0 here, so there is no row to exchange.
        if pivot == 0:
            return 0
        for below in range(at + 1, len(rows)):
            factor = rows[below][at]
            # This division leaves no rest: each number is a determinant of a part of the table.
            rows[below] = [(pivot * old - factor * one) // ahead for old, one in zip(rows[below], rows[at])]
        ahead = pivot
    return ahead


def weight_without(web, lot):
    """The free weight without the lot: the determinant of the tie table without its rows and columns."""
    left = [place for place in range(len(web)) if place not in lot]
    table = table_of(web)
    return determinant([[table[x][y] for y in left] for x in left])


def free_weight(web, lot=()):
    """The sum, over the sets of ties that fit the lot, of 4 to the power of their pieces with a round."""
    need_web(web)
    need_lot(web, lot)
    return weight_without(web, lot)


def weight_sums(web):
    """The list that has at index k the sum of the free weights without the lots of k places."""
    need_web(web)
    sums = [0] * (len(web) + 1)
    for lot in lot_list(len(web)):
        sums[len(lot)] += weight_without(web, lot)
    return sums


def tie_table(web):
    """The table of the numbers of ties of the places and, beside them, of the signs of ties turned about."""
    need_web(web)
    return table_of(web)


def tree_count(web):
    """The number of sets of ties the web of which is one piece without a round."""
    need_web(web)
    # The free weights of friends alone tell the trees: a tree is one piece with one place of the lot.
    return weight_without(web_of_rows([[abs(sign) for sign in row] for row in web]), (0,))
