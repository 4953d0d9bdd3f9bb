"""Tests of any value: whether it is of a kind that the other files take."""

from signrounds.base import tie_list

MOST_PLACES = 10
MOST_TABLE_PLACES = 20
MOST_RINGS = 100
MOST_WEIGHT = 1000000


def is_whole(value):
    """Whether it is an integer; True and False are none."""
    return isinstance(value, int) and not isinstance(value, bool)


def is_whole_row(value):
    """Whether it is a tuple of integers alone."""
    return isinstance(value, tuple) and all([is_whole(one) for one in value])


def is_ascending(row):
    """Whether each part is greater than the one ahead of it."""
    return all([row[at - 1] < row[at] for at in range(1, len(row))])


def is_sign(value):
    """Whether it is the sign of a tie."""
    return is_whole(value) and value in (1, -1)


def is_sign_row(value, many):
    """Whether it is a tuple of so many signs of ties."""
    return isinstance(value, tuple) and len(value) == many and all([is_sign(one) for one in value])


def is_index_row(value, many):
    """Whether it is an ascending tuple of integers from 0 to many - 1."""
    return is_whole_row(value) and is_ascending(value) and all([0 <= one < many for one in value])


def is_row_of(value, many, entries):
    """Whether it is a tuple of so many integers, each of them one of the entries."""
    return is_whole_row(value) and len(value) == many and all([one in entries for one in value])


def is_square(value, most, entries):
    """Whether it is a tuple of 1 to so many rows of these entries, the same across, with 0 from a place to itself."""
    if not isinstance(value, tuple) or not 1 <= len(value) <= most:
        return False
    many = len(value)
    if not all([is_row_of(row, many, entries) for row in value]):
        return False
    if not all([value[place][place] == 0 for place in range(many)]):
        return False
    return all([value[x][y] == value[y][x] for x in range(many) for y in range(x)])


def is_signed_web(value):
    """Whether it is a signed web."""
    return is_square(value, MOST_PLACES, (1, -1, 0))


def is_plain_table(value):
    """Whether it is a plain table."""
    return is_square(value, MOST_TABLE_PLACES, (1, 0))


def is_place_of(web, value):
    """Whether it is a place of the web."""
    return is_whole(value) and 0 <= value < len(web)


def is_lot_of(web, value):
    """Whether it is a lot of places of the web, perhaps ()."""
    return is_index_row(value, len(web))


def is_tie_of(web, value):
    """Whether it is a tie of the web."""
    return is_lot_of(web, value) and len(value) == 2 and web[value[0]][value[1]] != 0


def is_tie_set_of(web, value):
    """Whether it is an ascending tuple of ties of the web, perhaps ()."""
    return isinstance(value, tuple) and all([is_tie_of(web, one) for one in value]) and is_ascending(value)


def is_naming_of(web, value):
    """Whether it is a tuple of just the places of the web, each once."""
    return is_whole_row(value) and sorted(value) == list(range(len(web)))


def is_closed_row_of(web, value):
    """Whether it has the places of a round in their sequence, wherever and whichever way it begins."""
    if not is_whole_row(value) or len(value) < 3:
        return False
    if not all([0 <= place < len(web) for place in value]) or len(set(value)) < len(value):
        return False
    return all([web[value[at - 1]][value[at]] != 0 for at in range(len(value))])


def is_round_of(web, value):
    """Whether it is a round of the web."""
    return is_closed_row_of(web, value) and value[0] == min(value) and value[1] < value[-1]


def is_round_row_of(web, value):
    """Whether it is a tuple of rounds of the web that is not too long."""
    if not isinstance(value, tuple) or len(value) > MOST_RINGS:
        return False
    return all([is_round_of(web, one) for one in value])


def is_weight_row(value, many):
    """Whether it is a tuple of so many weights."""
    return is_whole_row(value) and len(value) == many and all([0 <= one <= MOST_WEIGHT for one in value])


def is_three_set(value, many):
    """Whether it is an ascending tuple of lots of three places less than many."""
    if not isinstance(value, tuple) or not all([is_index_row(one, many) for one in value]):
        return False
    return all([len(one) == 3 for one in value]) and is_ascending(value)


def is_choice_of(web, value):
    """Whether it is a tuple of a way, 1 or -1, for each tie of the web."""
    return is_sign_row(value, len(tie_list(web)))


def is_walk_of(table, value):
    """Whether it is a walk of the web or plain table: a tuple of one or more places, neighbours tied."""
    if not is_whole_row(value) or value == () or not all([0 <= place < len(table) for place in value]):
        return False
    return all([table[value[at - 1]][value[at]] != 0 for at in range(1, len(value))])
