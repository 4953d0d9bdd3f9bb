"""The arrows of a choice of ways, from greater to lesser numbers, and what they lead to: a row, or a stop.

The number of the place x stands at x, its opposite at x + n. Each tie tells two arrows: one, and the same one
of the opposites turned about. So if the greatest number of those left is found, its opposite is the least.
"""

from signrounds.base import tie_list


def lifted_ends(web, tie):
    """The lesser end of the tie, and the greater one or its opposite, with which the tie compares it."""
    x, y = tie
    return (x, y) if web[x][y] > 0 else (x, y + len(web))


def opposite_of(web, spot):
    """Where the opposite number stands."""
    return spot - len(web) if spot >= len(web) else spot + len(web)


def arrow_list(web, choice):
    """The tuples (greater, lesser, index of the tie)."""
    told = []
    for at, tie in enumerate(tie_list(web)):
        one, other = lifted_ends(web, tie)
        high, low = (one, other) if choice[at] > 0 else (other, one)
        told.append((high, low, at))
        told.append((opposite_of(web, low), opposite_of(web, high), at))
    return told


def greatest_spot(spots, arrows):
    """A spot than which none is greater; None if there is none."""
    lesser = {low: True for _, low, _ in arrows}
    for spot in spots:
        if spot not in lesser:
            return spot
    return None


def round_weights(web, arrows):
    """How often the ties are gone on a way round along arrows; each spot has one that comes to it."""
    coming = {low: (high, at) for high, low, at in arrows}
    spot = arrows[0][1]
    way = []
    while spot not in way:
        way.append(spot)
        spot = coming[spot][0]
    weights = [0] * len(tie_list(web))
    for one in way[way.index(spot):]:
        weights[coming[one][1]] += 1
    return tuple(weights)


def row_or_stop(web, choice):
    """The tuple of a standing row of the choice and None, or of None and a stop with no integer above 2."""
    spots = list(range(2 * len(web)))
    arrows = arrow_list(web, choice)
    row = [0] * len(web)
    for size in range(len(web), 0, -1):
        spot = greatest_spot(spots, arrows)
        if spot is None:
            return None, round_weights(web, arrows)
        twin = opposite_of(web, spot)
        row[min(spot, twin)] = size if spot < twin else -size
        spots = [one for one in spots if one not in (spot, twin)]
        arrows = [arrow for arrow in arrows if arrow[0] in spots and arrow[1] in spots]
    return tuple(row), None


def keeps(web, choice, row):
    """Whether the row keeps the choice."""
    numbers = list(row) + [-number for number in row]
    return all([numbers[high] > numbers[low] for high, low, _ in arrow_list(web, choice)])


def kept_choice(web, row):
    """The choice that the dyeing keeps."""
    numbers = list(row) + [-number for number in row]
    ends = [lifted_ends(web, tie) for tie in tie_list(web)]
    return tuple([1 if numbers[one] > numbers[other] else -1 for one, other in ends])


def has_row(web, choice):
    """Whether the choice stands."""
    return row_or_stop(web, choice)[0] is not None


def other_way(choice, at):
    """The choice with the other way of the tie with this index."""
    return choice[:at] + (-choice[at],) + choice[at + 1:]
