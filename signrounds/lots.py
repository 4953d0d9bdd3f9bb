"""All lots of a web in lot order, their wrong ties, and the lots and ties that hold the trouble."""

from itertools import combinations

from signrounds.base import foe_list, sides_of, tie_list, turned_at


def lot_list(many):
    """All lots of so many places, in lot order."""
    return [lot for size in range(many + 1) for lot in combinations(range(many), size)]


def wrong_list(web, lot):
    """The ties that are foes in the web turned at the lot, ascending."""
    return foe_list(turned_at(web, lot))


def wrong_table(web):
    """For each lot, in lot order, the tuple of it and the number of its wrong ties."""
    signs = [(x, y, web[x][y]) for x, y in tie_list(web)]
    table = []
    for lot in lot_list(len(web)):
        sides = sides_of(web, lot)
        table.append((lot, len([sign for x, y, sign in signs if sides[x] * sides[y] != sign])))
    return table


def trouble_of(web):
    """The least number of wrong ties of a lot."""
    return min([wrong for _, wrong in wrong_table(web)])


def best_camp_list(web):
    """The lots with the fewest wrong ties, in lot order."""
    table = wrong_table(web)
    least = min([wrong for _, wrong in table])
    return [lot for lot, wrong in table if wrong == least]


def least_cure_list(web):
    """The sets of the fewest ties without which the web is balanced, ascending."""
    return sorted({tuple(wrong_list(web, lot)) for lot in best_camp_list(web)})
