"""The doubled web as a plain table, and the rows that exchange twins in such tables."""

from signrounds.base import web_of_rows
from signrounds.kinds import is_naming_of, is_signed_web


def doubled_table(web):
    """The doubled web: ties of friends stay among the places above and among their twins, those of foes cross."""
    friends = [[1 if sign > 0 else 0 for sign in row] for row in web]
    foes = [[1 if sign < 0 else 0 for sign in row] for row in web]
    above = [one + other for one, other in zip(friends, foes)]
    return web_of_rows(above + [other + one for one, other in zip(friends, foes)])


def web_below(table, lesser, greater):
    """The rows of signs of pairs of places, told by the lesser and the greater ones of the pairs."""
    return web_of_rows([[table[x][y] - table[x][z] for y, z in zip(lesser, greater)] for x in lesser])


def single_web(table):
    """The web of which the plain table is the doubled one; None if there is none."""
    many = len(table) // 2
    if len(table) != 2 * many:
        return None
    web = web_below(table, list(range(many)), list(range(many, 2 * many)))
    return web if is_signed_web(web) and doubled_table(web) == table else None


def keeps_ties(table, row):
    """Whether places are tied in the table exactly if those are that the row leads them to."""
    return all([
        table[x][y] == table[row[x]][row[y]]
        for x in range(len(table)) for y in range(x)
    ])


def is_twin_row(table, value):
    """Whether any value is a twin map of the plain table."""
    if not is_naming_of(table, value):
        return False
    if not all([value[twin] == x and twin != x and table[x][twin] == 0 for x, twin in enumerate(value)]):
        return False
    if any([row[x] == 1 and row[twin] == 1 for row in table for x, twin in enumerate(value)]):
        return False
    return keeps_ties(table, value)


def pairings(places):
    """All ways to part the places in pairs."""
    if not places:
        return [[]]
    first, others = places[0], places[1:]
    return [
        [(first, other)] + pairs
        for other in others
        for pairs in pairings([place for place in others if place != other])
    ]


def row_of_pairs(pairs):
    """The row that exchanges the two places of each pair."""
    partner = {}
    for one, other in pairs:
        partner[one] = other
        partner[other] = one
    return tuple([partner[place] for place in range(len(partner))])


def twin_row_list(table):
    """All twin maps of the plain table, ascending."""
    rows = [row_of_pairs(pairs) for pairs in pairings(list(range(len(table))))]
    return sorted([row for row in rows if is_twin_row(table, row)])
