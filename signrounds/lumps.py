"""Lumps and joints of a web, rounds through a tie, and what bad rounds have in common."""

from signrounds.base import inner_web, lot_order, others_of, ring_tie_list, tie_list, told_ring, without_ties
from signrounds.checks import need_tie, need_web
from signrounds.forests import own_ring_list, some_bad_ring
from signrounds.lots import lot_list, trouble_of


def tie_labels(web):
    """For each tie a number; it is the same for ties that are in one lump."""
    labels = {tie: at for at, tie in enumerate(tie_list(web))}
    # The own rounds that have common ties, one by one, hold the ties of a lump together.
    for ring in own_ring_list(web):
        inside = [labels[tie] for tie in ring_tie_list(ring)]
        labels = {tie: inside[0] if label in inside else label for tie, label in labels.items()}
    return labels


def lump_list(web):
    """The lumps in lot order."""
    places = {}
    for tie, label in tie_labels(web).items():
        places.setdefault(label, []).extend(tie)
    told = [(place,) for place, row in enumerate(web) if not any(row)]
    told.extend([tuple(sorted(set(ends))) for ends in places.values()])
    return sorted(told, key=lot_order)


def bad_ring_within(web, lot):
    """A bad round all of whose places are in the lot; None if there is none."""
    ring = some_bad_ring(inner_web(web, lot))
    return None if ring is None else tuple([lot[at] for at in ring])


def ring_at(web, tie, sign):
    """A round of this sign of which the tie is one; None if there is none."""
    start, goal = tie
    # Of the ways with the same places, end and sign, one is enough: they go on alike.
    ways = [((start, place), web[start][place]) for place in range(len(web)) if place != goal and web[start][place]]
    seen = {}
    at = 0
    while at < len(ways):
        way, product = ways[at]
        at += 1
        state = (tuple(sorted(way)), way[-1], product)
        if state not in seen:
            seen[state] = True
            if way[-1] == goal and product * web[start][goal] == sign:
                return told_ring(way)
            if way[-1] != goal:
                more = [place for place, one in enumerate(web[way[-1]]) if one != 0 and place not in way]
                ways.extend([(way + (place,), product * web[way[-1]][place]) for place in more])
    return None


def lumps(web):
    """The list of the lumps in lot order."""
    need_web(web)
    return lump_list(web)


def joints(web):
    """The lot of the places that are in two lumps or more."""
    need_web(web)
    told = lump_list(web)
    return tuple([place for place in range(len(web)) if len([lump for lump in told if place in lump]) > 1])


def lump_troubles(web):
    """The list of the lumps, each with the trouble of its inner web."""
    need_web(web)
    return [(lump, trouble_of(inner_web(web, lump))) for lump in lump_list(web)]


def bad_ring_at(web, tie):
    """A bad round of which the tie is one; None if there is none."""
    need_web(web)
    need_tie(web, tie)
    return ring_at(web, tie, -1)


def good_ring_at(web, tie):
    """A good round of which the tie is one; None if there is none."""
    need_web(web)
    need_tie(web, tie)
    return ring_at(web, tie, 1)


def common_ties(web):
    """The ascending list of the ties that each bad round has; [] if there is no bad round."""
    need_web(web)
    if some_bad_ring(web) is None:
        return []
    return [tie for tie in tie_list(web) if some_bad_ring(without_ties(web, [tie])) is None]


def common_places(web):
    """The lot of the places that each bad round has; () if there is no bad round."""
    need_web(web)
    if some_bad_ring(web) is None:
        return ()
    return tuple([place for place in range(len(web)) if bad_ring_within(web, others_of(web, (place,))) is None])


def least_leaving(web):
    """The first lot such that the web of all other places is balanced."""
    need_web(web)
    for lot in lot_list(len(web)):
        if bad_ring_within(web, others_of(web, lot)) is None:
            return lot
    return None


def bad_pair(web):
    """Two bad rounds that have no common place; None if there are none."""
    need_web(web)
    for lot in lot_list(len(web)):
        # One of the two has at most half of the places.
        if 3 <= len(lot) and 2 * len(lot) <= len(web):
            first = bad_ring_within(web, lot)
            if first is not None:
                second = bad_ring_within(web, others_of(web, lot))
                if second is not None:
                    return first, second
    return None
