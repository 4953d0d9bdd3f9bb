"""What the document says, counted anew from its words, however slowly."""

from itertools import combinations, permutations

from tests.samples import lots_of, pairs_tied


def turned_anew(web, lot):
    many = len(web)
    return tuple(
        tuple(-web[x][y] if (x in lot) != (y in lot) else web[x][y] for y in range(many)) for x in range(many)
    )


def joined_anew(web, lot, ties=None):
    """Whether one comes from each place of the lot to each other one along ties between its places."""
    if not lot:
        return False
    ties = pairs_tied(web) if ties is None else ties
    reached = {lot[0]}
    for _ in lot:
        for x, y in ties:
            if x in lot and y in lot and (x in reached or y in reached):
                reached |= {x, y}
    return reached == set(lot)


def pieces_anew(web, lot=()):
    """The joined lots without the lot that no other one contains."""
    left = [place for place in range(len(web)) if place not in lot]
    joined = []
    for size in range(len(left), 0, -1):
        for some in combinations(left, size):
            if not any(set(some) <= set(more) for more in joined) and joined_anew(web, some):
                joined.append(some)
    return sorted(joined)


def rounds_anew(web):
    """All rounds, from all tuples of places."""
    told = []
    for size in range(3, len(web) + 1):
        for row in permutations(range(len(web)), size):
            if row[0] == min(row) and row[1] < row[-1]:
                if all(web[row[at - 1]][row[at]] for at in range(size)):
                    told.append(row)
    return told


def ties_anew(ring):
    return sorted(tuple(sorted(pair)) for pair in zip(ring, ring[1:] + ring[:1]))


def sign_anew(web, ring):
    return (-1) ** sum(web[x][y] == -1 for x, y in ties_anew(ring))


def camps_anew(web):
    """All camps, from all lots."""
    foes = {pair for pair in pairs_tied(web) if web[pair[0]][pair[1]] == -1}
    return [
        lot for lot in lots_of(len(web))
        if foes == {(x, y) for x, y in pairs_tied(web) if (x in lot) != (y in lot)}
    ]


def forest_anew(web):
    taken = []
    for x, y in pairs_tied(web):
        reached = {x}
        for _ in web:
            for pair in taken:
                if reached & set(pair):
                    reached |= set(pair)
        if y not in reached:
            taken.append((x, y))
    return taken


def outer_anew(web):
    forest = forest_anew(web)
    return [pair for pair in pairs_tied(web) if pair not in forest]


def same_ties_anew(web, other):
    return len(web) == len(other) and pairs_tied(web) == pairs_tied(other)


def leading_anew(web, other):
    """All lots that lead from the one to the other, in lot order."""
    return [lot for lot in lots_of(len(web)) if turned_anew(web, lot) == other]


def class_anew(web):
    """All webs alike with this one, ascending."""
    return sorted({turned_anew(web, lot) for lot in lots_of(len(web))})


def form_anew(web):
    """The member of the class whose first forest has friends alone."""
    forest = forest_anew(web)
    (found,) = [member for member in class_anew(web) if all(member[x][y] == 1 for x, y in forest)]
    return found


def number_anew(web):
    form = form_anew(web)
    return int("0" + "".join("1" if form[x][y] == -1 else "0" for x, y in outer_anew(web)), 2)


def renamed_anew(web, row):
    many = len(web)
    back = {name: place for place, name in enumerate(row)}
    return tuple(tuple(web[back[x]][back[y]] for y in range(many)) for x in range(many))


def odd_ties(several):
    """The ties that are in an odd number of these rounds."""
    odd = set()
    for ring in several:
        odd ^= set(ties_anew(ring))
    return odd


def ways_anew(web, start, goal):
    """All ways from the one place to the other, no place twice."""
    others = [place for place in range(len(web)) if place not in (start, goal)]
    told = []
    for size in range(len(others) + 1):
        for row in permutations(others, size):
            way = (start,) + row + (goal,)
            if all(web[x][y] for x, y in zip(way, way[1:])):
                told.append(way)
    return told


def thetas_anew(web):
    """All ascending tuples of three rounds that are a theta."""
    told = set()
    for start, goal in combinations(range(len(web)), 2):
        ways = ways_anew(web, start, goal)
        for three in combinations(ways, 3):
            insides = [set(way[1:-1]) for way in three]
            if any(a & b for a, b in combinations(insides, 2)):
                continue
            told.add(tuple(sorted(ring_anew(a + b[-2:0:-1]) for a, b in combinations(three, 2))))
    return told


def ring_anew(row):
    """The told one of all ways to write a round."""
    rows = [row[at:] + row[:at] for at in range(len(row))]
    return min(rows + [one[::-1] for one in rows])


def exactly(value, others):
    """Whether the value is one of the others, of the same kinds throughout."""
    return repr(value) in {repr(other) for other in others}


def balanced_anew(web):
    """Whether no round of the web is bad."""
    return all(sign_anew(web, ring) == 1 for ring in rounds_anew(web))


def foes_anew(web):
    return [(x, y) for x, y in pairs_tied(web) if web[x][y] == -1]


def wrong_anew(web, lot):
    """The ties that are foes in the web turned at the lot."""
    return tuple(foes_anew(turned_anew(web, lot)))


def trouble_anew(web):
    return min(len(wrong_anew(web, lot)) for lot in lots_of(len(web)))


def without_anew(web, ties):
    """The web without these ties."""
    many = len(web)
    return tuple(tuple(0 if (min(x, y), max(x, y)) in ties else web[x][y] for y in range(many)) for x in range(many))


def with_other_signs(web, ties):
    many = len(web)
    return tuple(
        tuple(-web[x][y] if (min(x, y), max(x, y)) in ties else web[x][y] for y in range(many)) for x in range(many)
    )


def sets_of(ties):
    """All ascending tuples of these ties, those of fewer ties first."""
    return [some for size in range(len(ties) + 1) for some in combinations(ties, size)]


def inner_anew(web, lot):
    return tuple(tuple(web[x][y] for y in lot) for x in lot)


def across_anew(web, lot):
    """The signs of the ties with just one end in the lot."""
    return [web[x][y] for x, y in pairs_tied(web) if (x in lot) != (y in lot)]


def web_of_set(web, ties):
    """The web with all places and just these ties."""
    return without_anew(web, [tie for tie in pairs_tied(web) if tie not in ties])


def round_left(ties):
    """The ties of the rounds, if no two rounds of a piece have a common tie: those left when ends go one by one."""
    left = list(ties)
    for _ in ties:
        ends = [place for tie in left for place in tie]
        left = [tie for tie in left if ends.count(tie[0]) > 1 and ends.count(tie[1]) > 1]
    return left


def is_free_anew(web, ties):
    """Whether each piece of the web of the set has at most one round, a bad one."""
    only = web_of_set(web, ties)
    for piece in pieces_by_ties(only):
        inside = [tie for tie in ties if tie[0] in piece]
        if len(inside) > len(piece):
            return False
        if len(inside) == len(piece):
            foes = [(x, y) for x, y in round_left(inside) if web[x][y] == -1]
            if len(foes) % 2 == 0:
                return False
    return True


def pieces_by_ties(web):
    """The pieces, found by spreading."""
    told = []
    for start in range(len(web)):
        if not any(start in piece for piece in told):
            reached = {start}
            for _ in web:
                reached |= {y for x in reached for y in range(len(web)) if web[x][y]}
            told.append(tuple(sorted(reached)))
    return told


def rank_anew(web, ties):
    return max(len(some) for some in sets_of(ties) if is_free_anew(web, some))


def binds_anew(web):
    """All binds, from all sets of ties."""
    several = sets_of(pairs_tied(web))
    free = {some for some in several if is_free_anew(web, some)}
    return [some for some in several if some not in free and
            all(some[:at] + some[at + 1:] in free for at in range(len(some)))]


def fit_weight(web, ties, lot):
    """4 to the power of the pieces with a round if the set of ties fits the lot, otherwise 0."""
    only, told = web_of_set(web, ties), 1
    for piece in pieces_by_ties(only):
        inside = [tie for tie in ties if tie[0] in piece]
        many = sum(place in lot for place in piece)
        if many == 1 and len(inside) == len(piece) - 1:
            continue
        if many == 0 and len(inside) == len(piece):
            if sum(web[x][y] == -1 for x, y in round_left(inside)) % 2:
                told *= 4
                continue
        return 0
    return told


def free_weight_anew(web, lot):
    return sum(fit_weight(web, some, lot) for some in sets_of(pairs_tied(web)))


def calm_pieces_by_spreading(web):
    """The balanced pieces: those in which signs spread without clashing."""
    told = []
    for piece in pieces_by_ties(web):
        side = {piece[0]: 1}
        for _ in piece:
            for x in list(side):
                side.update({y: side[x] * web[x][y] for y in piece if web[x][y] and y not in side})
        if all(web[x][y] in (0, side[x] * side[y]) for x, y in combinations(piece, 2)):
            told.append(piece)
    return told
