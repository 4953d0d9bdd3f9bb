"""Webs at rest, and the rows of places that calm a web."""

from signrounds.base import tie_list, turned_at
from signrounds.checks import need_number, need_web
from signrounds.kinds import is_place_of
from signrounds.lots import lot_list


def ails(web, place):
    """Whether more ties of the place are foes than friends."""
    return sum(web[place]) < 0


def ailing_lot(web):
    """The lot of the places that ail."""
    return tuple([place for place in range(len(web)) if ails(web, place)])


def rest_lots(web):
    """The lots turned at which the web is at rest, in lot order."""
    return [lot for lot in lot_list(len(web)) if ailing_lot(turned_at(web, lot)) == ()]


def is_heavy(web, lot):
    """Whether more foes than friends have just one end in the lot."""
    return sum([web[x][y] for x, y in tie_list(web) if (x in lot) != (y in lot)]) < 0


def ailing(web):
    """The lot of the places that ail."""
    need_web(web)
    return ailing_lot(web)


def is_at_rest(web):
    """Whether no place ails."""
    need_web(web)
    return ailing_lot(web) == ()


def heavy_lot(web):
    """The first lot such that more foes than friends have just one end in it; None if there is none."""
    need_web(web)
    for lot in lot_list(len(web)):
        if is_heavy(web, lot):
            return lot
    return None


def is_calming(web, value):
    """Whether any value is a calming row of the web."""
    need_web(web)
    if not isinstance(value, list):
        return False
    for place in value:
        if not is_place_of(web, place) or not ails(web, place):
            return False
        web = turned_at(web, (place,))
    return ailing_lot(web) == ()


def calmed(web):
    """The calming row that takes the first place that ails each time, and the web behind it."""
    need_web(web)
    row = []
    places = ailing_lot(web)
    while places:
        row.append(places[0])
        web = turned_at(web, places[:1])
        places = ailing_lot(web)
    return row, web


def lengths_from(web, known):
    """The numbers of places of a shortest and of a longest calming row; known keeps what was found."""
    if web not in known:
        behind = [lengths_from(turned_at(web, (place,)), known) for place in ailing_lot(web)]
        shortest = min([short + 1 for short, _ in behind], default=0)
        known[web] = (shortest, max([long + 1 for _, long in behind], default=0))
    return known[web]


def calming_lengths(web):
    """The numbers of places of a shortest and of a longest calming row."""
    need_web(web)
    return lengths_from(web, {})


def rest_count(web):
    """How many lots there are turned at which the web is at rest."""
    need_web(web)
    return len(rest_lots(web))


def nth_rest(web, number):
    """The lot with this index among them in lot order; None if there are not so many."""
    need_web(web)
    need_number(number)
    lots = rest_lots(web)
    return lots[number] if number < len(lots) else None
