"""The first forest of a web, and what it settles: sides, the form, own rounds, a bad round."""

from signrounds.base import foe_list, tie_list, told_ring, turned_by, web_of_rows


def forest_list(web):
    """The ties taken, ascending: each that no ties taken ahead of it make needless."""
    label = list(range(len(web)))
    taken = []
    for x, y in tie_list(web):
        if label[x] != label[y]:
            taken.append((x, y))
            new, old = label[x], label[y]
            label = [new if one == old else one for one in label]
    return taken


def outer_list(web):
    """The ties that are not in the first forest, ascending."""
    taken = forest_list(web)
    return [tie for tie in tie_list(web) if tie not in taken]


def forest_table(web):
    """For each place the list of those with which the first forest ties it."""
    table = [[] for _ in web]
    for x, y in forest_list(web):
        table[x].append(y)
        table[y].append(x)
    return table


def forest_parents(web):
    """For each place the next one on its way to the least place of its piece, None for that one.

    Each place stands behind its parent in the dict.
    """
    table = forest_table(web)
    parents = {}
    for start in range(len(web)):
        if start not in parents:
            parents[start] = None
            waiting = [start]
            while waiting:
                place = waiting.pop()
                for other in table[place]:
                    if other not in parents:
                        parents[other] = place
                        waiting.append(other)
    return parents


def side_list(web):
    """For each place the product of the signs on its way to the least place of its piece."""
    sides = [1] * len(web)
    for place, parent in forest_parents(web).items():
        if parent is not None:
            sides[place] = sides[parent] * web[place][parent]
    return sides


def form_of(web):
    """The web alike with it whose first forest has friends alone."""
    return turned_by(web, side_list(web))


def way_up(parents, place):
    """The places from this one to the least one of its piece."""
    way = [place]
    while parents[way[-1]] is not None:
        way.append(parents[way[-1]])
    return way


def own_ring(parents, tie):
    """The round that the outer tie closes with ties of the first forest."""
    up, down = way_up(parents, tie[0]), way_up(parents, tie[1])
    while len(up) > 1 and len(down) > 1 and up[-2] == down[-2]:
        up.pop()
        down.pop()
    return told_ring(up + down[-2::-1])


def own_ring_list(web):
    """The own rounds in the sequence of the outer ties."""
    parents = forest_parents(web)
    return [own_ring(parents, tie) for tie in outer_list(web)]


def some_bad_ring(web):
    """A bad round; None if the web is balanced."""
    wrong = foe_list(form_of(web))
    if not wrong:
        return None
    return own_ring(forest_parents(web), wrong[0])


def form_by_outer(web, signs):
    """The form, with the ties of the web, whose outer ties have these signs."""
    rows = [[abs(one) for one in row] for row in web]
    for (x, y), sign in zip(outer_list(web), signs):
        rows[x][y] = rows[y][x] = sign
    return web_of_rows(rows)


def form_number(web):
    """The number of the class of the web."""
    form = form_of(web)
    number = 0
    for x, y in outer_list(web):
        number = 2 * number + (1 if form[x][y] < 0 else 0)
    return number


def form_by_number(web, number):
    """The form, with the ties of the web, of the class with this number."""
    many = len(outer_list(web))
    return form_by_outer(web, [-1 if number >> (many - 1 - at) & 1 else 1 for at in range(many)])
