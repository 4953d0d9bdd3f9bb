"""Webs all of whose places are tied, and the threes of places that are bad in them."""

from itertools import combinations, permutations

from signrounds.base import product_of, renamed_by, tie_list, turned_at, turned_by, web_of_rows
from signrounds.checks import need_few, need_many, need_naming, need_number, need_place, need_threes, need_web
from signrounds.errors import NotAllTied, NotEven
from signrounds.forests import side_list
from signrounds.kinds import is_three_set

MOST_FOR_ROWS = 6


def need_all_tied(web):
    """NotAllTied, with the first two places that are not tied, if there are such."""
    for x, y in combinations(range(len(web)), 2):
        if web[x][y] == 0:
            raise NotAllTied((x, y))


def bad_three_list(web):
    """The bad threes, ascending."""
    return [(x, y, z) for x, y, z in combinations(range(len(web)), 3) if web[x][y] * web[x][z] * web[y][z] < 0]


def some_odd_four(many, threes):
    """The first lot of four places that contains an odd number of the threes; None if there is none."""
    for four in combinations(range(many), 4):
        inside = [four[:at] + four[at + 1:] for at in range(4)]
        if len([three for three in inside if three in threes]) % 2 == 1:
            return four
    return None


def need_even(many, threes):
    """NotEven, with the first such lot, unless the set is even."""
    four = some_odd_four(many, threes)
    if four is not None:
        raise NotEven(four)


def pairs_behind(many):
    """The pairs (x, y), x from 1 on and less than y, ascending."""
    return list(combinations(range(1, many), 2))


def set_total(many):
    """How many even sets there are."""
    return 1 << len(pairs_behind(many))


def web_of_foes(many, told):
    """The all-tied web that has just these foes."""
    rows = [[0 if x == y else 1 for y in range(many)] for x in range(many)]
    for x, y in told:
        rows[x][y] = rows[y][x] = -1
    return web_of_rows(rows)


def bad_counts(web):
    """For each tie the number of bad threes with both its ends."""
    bad = bad_three_list(web)
    return tuple([len([three for three in bad if x in three and y in three]) for x, y in tie_list(web)])


def lot_of_row(web, row):
    """The lot without the place 0 at which the web turned is the one renamed by the row; None if there is none."""
    other = renamed_by(web, row)
    sides = side_list(product_of(web, other))
    if turned_by(web, sides) != other:
        return None
    return tuple([place for place, side in enumerate(sides) if side < 0])


def bad_threes(web):
    """The ascending tuple of the bad threes."""
    need_web(web)
    need_all_tied(web)
    return tuple(bad_three_list(web))


def is_even(many, value):
    """Whether any value is an even set of threes of so many places."""
    need_many(many)
    return is_three_set(value, many) and some_odd_four(many, value) is None


def odd_four(many, threes):
    """The first lot of four places that contains an odd number of the threes; None if there is none."""
    need_many(many)
    need_threes(many, threes)
    return some_odd_four(many, threes)


def web_of_threes(many, threes):
    """The all-tied web that has just these bad threes and in which the place 0 has friends alone."""
    need_many(many)
    need_threes(many, threes)
    need_even(many, threes)
    return web_of_foes(many, [three[1:] for three in threes if three[0] == 0])


def seen_from(web, place):
    """The web alike to it in which the place has friends alone."""
    need_web(web)
    need_place(web, place)
    need_all_tied(web)
    return turned_at(web, [other for other, sign in enumerate(web[place]) if sign < 0])


def even_count(many):
    """How many even sets of threes of so many places there are."""
    need_many(many)
    return set_total(many)


def threes_number(many, threes):
    """The number of the even set."""
    need_many(many)
    need_threes(many, threes)
    need_even(many, threes)
    number = 0
    for x, y in pairs_behind(many):
        number = 2 * number + (1 if (0, x, y) in threes else 0)
    return number


def nth_threes(many, number):
    """The even set with this number; None if there is none."""
    need_many(many)
    need_number(number)
    if number >= set_total(many):
        return None
    pairs = pairs_behind(many)
    told = [pair for at, pair in enumerate(pairs) if number >> (len(pairs) - 1 - at) & 1]
    return tuple(bad_three_list(web_of_foes(many, told)))


def bad_at_ties(web):
    """The tuple that has for each tie the number of bad threes with both its ends."""
    need_web(web)
    need_all_tied(web)
    return bad_counts(web)


def is_steady(web):
    """Whether each two places are together in the same number of bad threes."""
    need_web(web)
    need_all_tied(web)
    return len(set(bad_counts(web))) <= 1


def lot_for_row(web, row):
    """The lot without the place 0 at which the web turned is the one renamed by the row; None if there is none."""
    need_web(web)
    need_naming(web, row)
    need_all_tied(web)
    return lot_of_row(web, row)


def keeping_rows(web):
    """The ascending list of the rows for which lot_for_row tells a lot."""
    need_web(web)
    need_all_tied(web)
    need_few(web, MOST_FOR_ROWS)
    return [row for row in permutations(range(len(web))) if lot_of_row(web, row) is not None]
