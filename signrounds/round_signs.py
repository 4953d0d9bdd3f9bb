"""Signs of rounds: all of them, those of the own rounds, and some that are told."""

from signrounds.base import ring_list, ring_tie_list, sign_of_ring
from signrounds.checks import need_ring, need_rings, need_signs, need_small_web, need_web
from signrounds.errors import NotTheta
from signrounds.forests import form_by_outer, outer_list, own_ring_list
from signrounds.kinds import is_ascending, is_index_row, is_round_of
from signrounds.sums import basis_and_clash, least_fitting, rounds_used, sum_indexes, ties_of_sum
from signrounds.thetas import are_theta, wrong_theta

MOST_FOR_ALL = 7


def sign_list(web, several):
    """The signs of these rounds."""
    return [sign_of_ring(web, ring) for ring in several]


def round_signs(web):
    """The signs of all rounds, in the sequence of rings."""
    need_small_web(web, MOST_FOR_ALL)
    return tuple(sign_list(web, ring_list(web)))


def web_by_signs(web, signs):
    """The form, with the ties of the web, whose rounds bear these signs in the sequence of rings."""
    need_small_web(web, MOST_FOR_ALL)
    several = ring_list(web)
    need_signs(signs, len(several))
    told = {ring: sign for ring, sign in zip(several, signs)}
    found = form_by_outer(web, [told[ring] for ring in own_ring_list(web)])
    if sign_list(found, several) != list(signs):
        raise NotTheta(wrong_theta(several, signs))
    return found


def is_theta(web, value):
    """Whether any value is an ascending tuple of three rounds that are a theta."""
    need_web(web)
    if not isinstance(value, tuple) or len(value) != 3:
        return False
    if not all([is_round_of(web, ring) for ring in value]) or not is_ascending(value):
        return False
    return are_theta(value[0], value[1], value[2])


def own_rounds(web):
    """The list of the own rounds, in the sequence of the outer ties."""
    need_web(web)
    return own_ring_list(web)


def web_by_own(web, signs):
    """The form, with the ties of the web, whose own rounds bear these signs."""
    need_web(web)
    need_signs(signs, len(outer_list(web)))
    return form_by_outer(web, signs)


def ring_sum(web, ring):
    """The own rounds that add up to the ring."""
    need_web(web)
    need_ring(web, ring)
    inside = ring_tie_list(ring)
    return [own for tie, own in zip(outer_list(web), own_ring_list(web)) if tie in inside]


def need_told(web, rings, signs):
    """The errors of a web, rings and their signs."""
    need_web(web)
    need_rings(web, rings)
    need_signs(signs, len(rings))


def sum_row(web, rings, ring):
    """An ascending tuple of indexes of rings that add up to the ring; None if there is none."""
    need_web(web)
    need_rings(web, rings)
    need_ring(web, ring)
    return sum_indexes(web, rings, ring)


def is_sum_row(web, rings, ring, value):
    """Whether any value is an ascending tuple of indexes of rings that add up to the ring."""
    need_web(web)
    need_rings(web, rings)
    need_ring(web, ring)
    return is_index_row(value, len(rings)) and ties_of_sum(rings, value) == ring_tie_list(ring)


def count_with(web, rings, signs):
    """How many classes with the ties of the web have webs in which these rounds bear these signs."""
    need_told(web, rings, signs)
    basis, clashing = basis_and_clash(web, rings, signs)
    return 0 if clashing else 1 << (len(outer_list(web)) - len(basis))


def class_with(web, rings, signs):
    """The form of the one of these classes with the least number; None if there is none."""
    need_told(web, rings, signs)
    basis, clashing = basis_and_clash(web, rings, signs)
    return None if clashing else least_fitting(web, basis)


def clash(web, rings, signs):
    """Indexes of rings that add up to nothing, an odd number of which is told to bear -1; None if none are."""
    need_told(web, rings, signs)
    _, clashing = basis_and_clash(web, rings, signs)
    return rounds_used(rings, clashing) if clashing else None


def is_clash(web, rings, signs, value):
    """Whether any value is an ascending tuple of such indexes."""
    need_told(web, rings, signs)
    if not is_index_row(value, len(rings)) or ties_of_sum(rings, value):
        return False
    return len([at for at in value if signs[at] < 0]) % 2 == 1
