"""Rounds that add up, told by numbers to the base 2, and the signs that are told of them.

An entry is a tuple (figures, odd, used): the outer ties of the sum of some rounds, as figures; 1 if an odd
number of these rounds is told to bear -1, else 0; and, as figures again, which of the told rounds they are,
the round with the index k by the figure that is worth 1 << k. A basis has each of its entries under the
last figure of it; no two entries have the same last figure.
"""

from signrounds.base import ring_tie_list
from signrounds.forests import form_by_number, outer_list


def outer_figures(outer, ring):
    """The number whose figures tell, for each outer tie, the first the highest, whether the round has it."""
    inside = ring_tie_list(ring)
    number = 0
    for tie in outer:
        number = 2 * number + (1 if tie in inside else 0)
    return number


def is_odd(figures):
    """Whether an odd number of the figures is 1."""
    odd = False
    while figures:
        figures &= figures - 1
        odd = not odd
    return odd


def reduced(basis, entry):
    """The entry with entries of the basis added, as long as there is one with the same last figure."""
    figures, odd, used = entry
    while figures & -figures in basis:
        more = basis[figures & -figures]
        figures, odd, used = figures ^ more[0], odd ^ more[1], used ^ more[2]
    return figures, odd, used


def basis_and_clash(web, rings, signs):
    """The basis of the rounds, and the figures of the rounds that clash, 0 if none do."""
    outer = outer_list(web)
    basis = {}
    for at, ring in enumerate(rings):
        figures, odd, used = reduced(basis, (outer_figures(outer, ring), 1 if signs[at] < 0 else 0, 1 << at))
        if figures != 0:
            basis[figures & -figures] = (figures, odd, used)
        elif odd:
            return basis, used
    return basis, 0


def rounds_used(rings, used):
    """The indexes that the figures tell."""
    return tuple([at for at in range(len(rings)) if used >> at & 1])


def sum_indexes(web, rings, ring):
    """Indexes of rounds that add up to the ring; None if there are none."""
    basis, _ = basis_and_clash(web, rings, (1,) * len(rings))
    figures, _, used = reduced(basis, (outer_figures(outer_list(web), ring), 0, 0))
    return None if figures else rounds_used(rings, used)


def least_fitting(web, basis):
    """The form of the class with the least number that bears all signs of the basis."""
    number = 0
    for at in reversed(range(len(outer_list(web)))):
        # Its last figure is the only one of an entry that the figures chosen so far leave open.
        if 1 << at in basis:
            figures, odd, _ = basis[1 << at]
            if is_odd(figures & number) != (odd == 1):
                number += 1 << at
    return form_by_number(web, number)


def ties_of_sum(rings, indexes):
    """The ties that are in an odd number of these rounds, ascending."""
    odd = {}
    for at in indexes:
        for tie in ring_tie_list(rings[at]):
            odd[tie] = not odd.get(tie, False)
    return sorted([tie for tie in odd if odd[tie]])
