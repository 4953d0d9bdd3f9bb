"""Thetas: three rounds that are those of each two of three ways between two places."""

from signrounds.base import ring_tie_list


def is_one_way(ring, other):
    """Whether what two rounds have in common is one way of a tie or more, and nothing else.

    Their common places and ties are ways, perhaps of one place: as many as the places are more than the ties.
    """
    inside = ring_tie_list(other)
    shared = [tie for tie in ring_tie_list(ring) if tie in inside]
    places = [place for place in ring if place in other]
    return len(shared) > 0 and len(places) == len(shared) + 1


def third_ties(ring, other):
    """The ties that are in just one of two rounds, ascending."""
    first, second = ring_tie_list(ring), ring_tie_list(other)
    return sorted([tie for tie in first if tie not in second] + [tie for tie in second if tie not in first])


def are_theta(ring, other, third):
    """Whether the three rounds of a web are a theta."""
    return is_one_way(ring, other) and third_ties(ring, other) == ring_tie_list(third)


def tie_figures(rings):
    """For each of the rounds a number to the base 2 that tells its ties."""
    worth = {}
    for ring in rings:
        for tie in ring_tie_list(ring):
            worth.setdefault(tie, 1 << len(worth))
    return [sum([worth[one] for one in ring_tie_list(told)]) for told in rings]


def wrong_theta(rings, signs):
    """Three rounds that are a theta, ascending, an odd number of which bears -1; None if there are none.

    The rounds are all those of a web.
    """
    figures = tie_figures(rings)
    index = {number: at for at, number in enumerate(figures)}
    for first in range(len(rings)):
        for second in range(first):
            third = index.get(figures[first] ^ figures[second])
            if third is not None and signs[first] * signs[second] * signs[third] < 0:
                if is_one_way(rings[first], rings[second]):
                    return tuple(sorted([rings[first], rings[second], rings[third]]))
    return None
