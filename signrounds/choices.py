"""Choices of ways of the ties, the rows that keep them, stops, and the gates from one choice to another."""

from signrounds.arrows import has_row, kept_choice, keeps, other_way, row_or_stop
from signrounds.base import tie_list
from signrounds.checks import need_choice, need_count, need_lot, need_web
from signrounds.dyes import is_dyed
from signrounds.errors import InvalidRow, NotStanding, TooMany
from signrounds.kinds import is_choice_of, is_tie_of, is_whole_row
from signrounds.sizes import dye_polynomial, value_at

MOST_TIES_TO_LIST = 10


def need_dyeing(web, row):
    if not is_whole_row(row) or len(row) != len(web) or not is_dyed(web, row):
        raise InvalidRow("the row is no dyeing of the web")


def need_standing(web, choice):
    """NotStanding, with a stop, unless the choice stands."""
    _, weights = row_or_stop(web, choice)
    if weights is not None:
        raise NotStanding(weights)


def need_two_choices(web, choice, other_choice):
    need_web(web)
    need_choice(web, choice)
    need_choice(web, other_choice)


def signed_value(web, nonzero, point):
    """(-1) ** n times the value of the polynomial at the point."""
    value = value_at(dye_polynomial(web, nonzero), point)
    return -value if len(web) % 2 == 1 else value


def is_choice(web, value):
    """Whether any value is a choice of the web."""
    need_web(web)
    return is_choice_of(web, value)


def choice_by(web, row):
    """The choice that the dyeing keeps."""
    need_web(web)
    need_dyeing(web, row)
    return kept_choice(web, row)


def stands(web, choice):
    """Whether some row keeps the choice."""
    need_web(web)
    need_choice(web, choice)
    return has_row(web, choice)


def standing_row(web, choice):
    """A row that keeps the choice and has each of the sizes 1 to n once."""
    need_web(web)
    need_choice(web, choice)
    need_standing(web, choice)
    return row_or_stop(web, choice)[0]


def stop(web, choice):
    """A stop of the choice with no integer above 2; None if the choice stands."""
    need_web(web)
    need_choice(web, choice)
    return row_or_stop(web, choice)[1]


def is_standing_row(web, choice, value):
    """Whether any value is a standing row of the choice."""
    need_web(web)
    need_choice(web, choice)
    if not is_whole_row(value) or sorted([abs(number) for number in value]) != list(range(1, len(web) + 1)):
        return False
    return keeps(web, choice, value)


def pull_sums(web, choice, weights):
    """For each place the sum, over its ties, of weight times pull."""
    sums = [0] * len(web)
    for (x, y), way, weight in zip(tie_list(web), choice, weights):
        sums[x] += weight * way
        sums[y] -= weight * way * web[x][y]
    return sums


def is_stop(web, choice, value):
    """Whether any value is a stop of the choice."""
    need_web(web)
    need_choice(web, choice)
    if not is_whole_row(value) or len(value) != len(choice):
        return False
    if not all([number >= 0 for number in value]) or not any(value):
        return False
    return not any(pull_sums(web, choice, value))


def standing_count(web):
    """How many choices stand."""
    need_web(web)
    return signed_value(web, False, -1)


def standing_choices(web):
    """The ascending list of the choices that stand."""
    need_web(web)
    several = tie_list(web)
    if len(several) > MOST_TIES_TO_LIST:
        raise TooMany(MOST_TIES_TO_LIST)
    choices = [()]
    for _ in several:
        choices = [choice + (way,) for choice in choices for way in (-1, 1)]
    return [choice for choice in choices if has_row(web, choice)]


def turned_choice(web, choice, lot):
    """The choice of the turned web that the rows that keep this one keep with the signs changed in the lot."""
    need_web(web)
    need_choice(web, choice)
    need_lot(web, lot)
    return tuple([-way if x in lot else way for (x, _), way in zip(tie_list(web), choice)])


def is_gate(web, choice, at):
    """Whether the standing choice stands with the other way of the tie with this index, too."""
    return has_row(web, other_way(choice, at))


def gates(web, choice):
    """The ascending list of the gates of the choice."""
    need_web(web)
    need_choice(web, choice)
    need_standing(web, choice)
    return [tie for at, tie in enumerate(tie_list(web)) if is_gate(web, choice, at)]


def gate_row(web, choice, other_choice):
    """A row of gates, none of them twice, that leads from the one standing choice to the other."""
    need_two_choices(web, choice, other_choice)
    need_standing(web, choice)
    need_standing(web, other_choice)
    told = []
    while choice != other_choice:
        # By K4 there is a gate among the ties at which they differ, whichever was taken ahead of it.
        unlike = [at for at, way in enumerate(choice) if way != other_choice[at]]
        at = [one for one in unlike if is_gate(web, choice, one)][0]
        told.append(tie_list(web)[at])
        choice = other_way(choice, at)
    return told


def is_gate_row(web, choice, other_choice, value):
    """Whether any value is a gate row from the one choice to the other."""
    need_two_choices(web, choice, other_choice)
    if not isinstance(value, list) or not all([is_tie_of(web, tie) for tie in value]):
        return False
    if len(set(value)) < len(value) or not has_row(web, choice):
        return False
    several = tie_list(web)
    for tie in value:
        choice = other_way(choice, several.index(tie))
        if not has_row(web, choice):
            return False
    return choice == other_choice


def pair_count(web, count, nonzero=False):
    """How many pairs there are of a standing choice and a row of this width that keeps it with >= and <=."""
    need_web(web)
    need_count(count)
    return signed_value(web, nonzero, -2 * count if nonzero else -(2 * count + 1))
