"""What the other files share: steps on webs, lots and rounds that are checked already."""


def tie_list(web):
    """The ties, ascending."""
    many = len(web)
    return [(x, y) for x in range(many) for y in range(x + 1, many) if web[x][y] != 0]


def foe_list(web):
    """The foes, ascending."""
    return [(x, y) for x, y in tie_list(web) if web[x][y] < 0]


def web_of_rows(rows):
    """The lists of signs as a web."""
    return tuple([tuple(row) for row in rows])


def with_sign(web, x, y, sign):
    """The web in which x and y have this sign."""
    rows = [list(row) for row in web]
    rows[x][y] = rows[y][x] = sign
    return web_of_rows(rows)


def without_ties(web, several):
    """The web without these ties."""
    rows = [list(row) for row in web]
    for x, y in several:
        rows[x][y] = rows[y][x] = 0
    return web_of_rows(rows)


def turned_by(web, sides):
    """The web turned at the places whose side, 1 or -1, is -1."""
    return web_of_rows([[sign * side * other for sign, other in zip(row, sides)] for row, side in zip(web, sides)])


def sides_of(web, lot):
    """For each place -1 if it is in the lot, 1 otherwise."""
    return [-1 if place in lot else 1 for place in range(len(web))]


def turned_at(web, lot):
    """The web turned at the lot."""
    return turned_by(web, sides_of(web, lot))


def renamed_by(web, row):
    """The web in which the place x is called row[x]."""
    rows = [list(told) for told in web]
    for x, line in enumerate(web):
        for y, sign in enumerate(line):
            rows[row[x]][row[y]] = sign
    return web_of_rows(rows)


def same_ties(web, other_web):
    """Whether both have as many places, and the same ones tied."""
    return len(web) == len(other_web) and tie_list(web) == tie_list(other_web)


def product_of(web, other_web):
    """The product of two webs with the same ties."""
    return web_of_rows([[a * b for a, b in zip(row, other)] for row, other in zip(web, other_web)])


def lot_order(lot):
    """What lots are sorted by."""
    return (len(lot), lot)


def piece_from(web, start, found):
    """The places that ties lead to from the start past those found; they are found behind this."""
    found[start] = True
    piece = [start]
    at = 0
    while at < len(piece):
        for other in range(len(web)):
            if web[piece[at]][other] != 0 and not found[other]:
                found[other] = True
                piece.append(other)
        at += 1
    return tuple(sorted(piece))


def piece_list(web, lot=()):
    """The pieces without the lot, ascending."""
    found = [place in lot for place in range(len(web))]
    told = []
    for place in range(len(web)):
        if not found[place]:
            told.append(piece_from(web, place, found))
    return told


def inner_web(web, lot):
    """The web of the places of the lot."""
    return web_of_rows([[web[x][y] for y in lot] for x in lot])


def others_of(web, lot):
    """The lot of all other places."""
    return tuple([place for place in range(len(web)) if place not in lot])


def tied_across(web, signs, other_web):
    """Both webs as one, the places of the other one behind; each is tied with the place x by signs[x], if not 0."""
    rows = [list(row) + [sign] * len(other_web) for row, sign in zip(web, signs)]
    return web_of_rows(rows + [list(signs) + list(row) for row in other_web])


def drawn_into(web, kept, gone):
    """The web without the place gone, whose ties with others the place kept gets."""
    rows = [list(row) for row in web]
    for place, sign in enumerate(web[gone]):
        if sign != 0 and place != kept:
            rows[kept][place] = rows[place][kept] = sign
    return inner_web(rows, others_of(web, (gone,)))


def told_ring(row):
    """The round with the places of the row in their sequence."""
    at = row.index(min(row))
    ring = tuple(row[at:]) + tuple(row[:at])
    if ring[1] > ring[-1]:
        ring = ring[:1] + ring[:0:-1]
    return ring


def ring_tie_list(ring):
    """The ties of the round, ascending."""
    ends = [(ring[at - 1], ring[at]) for at in range(len(ring))]
    return sorted([(min(x, y), max(x, y)) for x, y in ends])


def sign_of_ring(web, ring):
    """The product of the signs of its ties."""
    sign = 1
    for x, y in ring_tie_list(ring):
        sign *= web[x][y]
    return sign


def closes(web, path):
    """Whether the path, whose least place is the first, is a round as it stands."""
    return len(path) > 2 and web[path[0]][path[-1]] != 0 and path[1] < path[-1]


def ring_list(web):
    """All rounds, those of fewer places first, those of one number as Python orders tuples."""
    many = len(web)
    paths = [(place,) for place in range(many)]
    told = []
    while paths:
        # Longer paths follow in the sequence of the shorter ones, so each length comes sorted.
        paths = [
            path + (place,)
            for path in paths
            for place in range(path[0] + 1, many)
            if web[path[-1]][place] != 0 and place not in path
        ]
        told.extend([path for path in paths if closes(web, path)])
    return told
