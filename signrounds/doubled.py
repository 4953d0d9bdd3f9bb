"""The doubled web, a plain table without signs, its walks and joining trees, and the maps that exchange twins."""

from signrounds.base import piece_list
from signrounds.checks import need_few, need_number, need_place, need_sign, need_table, need_walk, need_web
from signrounds.errors import InvalidCount, InvalidPlace, InvalidRow, InvalidTable
from signrounds.kinds import is_place_of, is_plain_table
from signrounds.twins import doubled_table, is_twin_row, single_web, twin_row_list, web_below
from signrounds.weights import weight_without

MOST_FOR_MAPS = 10
MOST_STEPS = 60


def walk_signs(web, walk):
    """The signs of the ties gone, in their sequence."""
    return [web[walk[at - 1]][walk[at]] for at in range(1, len(walk))]


def walk_below(web, walk):
    """The walk of the web over which the walk of the doubled web lies."""
    return tuple([place % len(web) for place in walk])


def walks_from(table, place):
    """For each place to which one comes from this one a shortest walk there."""
    walks = {place: (place,)}
    waiting = [place]
    while waiting:
        behind = []
        for end in waiting:
            for other, tied in enumerate(table[end]):
                if tied and other not in walks:
                    walks[other] = walks[end] + (other,)
                    behind.append(other)
        waiting = behind
    return walks


def doubled(web):
    """The doubled web."""
    need_web(web)
    return doubled_table(web)


def is_doubled(value):
    """Whether any value is the doubled web of some web."""
    return is_plain_table(value) and single_web(value) is not None


def undoubled(table):
    """The web of which the table is the doubled one."""
    if not is_doubled(table):
        raise InvalidTable("this is no doubled web")
    return single_web(table)


def sheet_pieces(web):
    """The ascending list of the pieces of the doubled web."""
    need_web(web)
    return piece_list(doubled_table(web))


def walk_sign(web, walk):
    """The product of the signs of the ties gone, each as often as it is gone."""
    need_web(web)
    need_walk(web, walk)
    return -1 if walk_signs(web, walk).count(-1) % 2 == 1 else 1


def lifted(web, walk, place):
    """The walk of the doubled web that begins at this place and lies above the walk."""
    need_web(web)
    need_walk(web, walk)
    many = len(web)
    if not is_place_of(web + web, place) or place % many != walk[0]:
        raise InvalidPlace("the place lies above the first place of the walk")
    told = [place]
    for below, sign in zip(walk[1:], walk_signs(web, walk)):
        as_first = (told[-1] < many) == (sign > 0)
        told.append(below if as_first else below + many)
    return tuple(told)


def dropped(web, walk):
    """The walk of the web over which the walk of the doubled web lies."""
    need_web(web)
    need_walk(doubled_table(web), walk)
    return walk_below(web, walk)


def shortest_walk(web, place, goal, sign):
    """A walk of as few places as can be from the place to the goal with this sign; None if there is none."""
    need_web(web)
    need_place(web, place)
    need_place(web, goal)
    need_sign(sign)
    walks = walks_from(doubled_table(web), place)
    end = goal if sign > 0 else goal + len(web)
    return walk_below(web, walks[end]) if end in walks else None


def step_table(web, place):
    """For each place as the goal the fewest ties gone by a walk with the sign 1, and with the sign -1."""
    need_web(web)
    need_place(web, place)
    walks = walks_from(doubled_table(web), place)
    steps = [len(walks[end]) - 1 if end in walks else None for end in range(2 * len(web))]
    return list(zip(steps[:len(web)], steps[len(web):]))


def walk_counts(web, place, goal, number):
    """How many walks of so many ties there are from the place to the goal with the sign 1, and with the sign -1."""
    need_web(web)
    need_place(web, place)
    need_place(web, goal)
    need_number(number)
    if number > MOST_STEPS:
        raise InvalidCount("a walk has at most 60 ties")
    table = doubled_table(web)
    counts = [1 if end == place else 0 for end in range(len(table))]
    for _ in range(number):
        counts = [sum([many * tied for many, tied in zip(counts, row)]) for row in table]
    return counts[goal], counts[goal + len(web)]


def doubled_tree_count(web):
    """How many joining trees the doubled web has."""
    need_web(web)
    # The free weight of friends alone without one place is the number of the joining trees.
    return weight_without(doubled_table(web), (0,))


def is_twin_map(table, value):
    """Whether any value is a twin map of the table."""
    need_table(table)
    return is_twin_row(table, value)


def twin_maps(table):
    """The ascending list of the twin maps."""
    need_table(table)
    need_few(table, MOST_FOR_MAPS)
    return twin_row_list(table)


def web_of_twins(table, row):
    """The web of the pairs that the twin map exchanges, in the sequence of their lesser places."""
    need_table(table)
    if not is_twin_row(table, row):
        raise InvalidRow("the row is no twin map of the table")
    lesser = [place for place, twin in enumerate(row) if place < twin]
    return web_below(table, lesser, [row[place] for place in lesser])
