"""Free sets of ties, their rank, binds, and the lightest of the greatest free sets."""

from signrounds.base import tie_list
from signrounds.checks import need_tie, need_ties, need_web, need_weights
from signrounds.errors import InvalidTie, NotFree, TooMany
from signrounds.frees import is_free_set, lightest_ties, some_bind, taken_ties
from signrounds.kinds import is_tie_set_of

MOST_TIES_TO_COUNT = 12


def need_free(web, ties):
    """NotFree, with a bind, unless the ties are a free set."""
    bind = some_bind(web, ties)
    if bind is not None:
        raise NotFree(bind)


def weight_of(web, weights, ties):
    """The sum of the weights of these ties."""
    return sum([weight for tie, weight in zip(tie_list(web), weights) if tie in ties])


def is_free(web, ties):
    """Whether the set is free."""
    need_web(web)
    need_ties(web, ties)
    return is_free_set(web, ties)


def rank_of(web, ties):
    """The greatest number of ties of a free set that this one contains."""
    need_web(web)
    need_ties(web, ties)
    return len(taken_ties(web, ties))


def first_free(web):
    """The first of the greatest free sets."""
    need_web(web)
    return tuple(taken_ties(web, tie_list(web)))


def bind_in(web, ties):
    """A bind all of whose ties are in the set; None if the set is free."""
    need_web(web)
    need_ties(web, ties)
    return some_bind(web, ties)


def is_bind(web, value):
    """Whether any value is a set of ties that is not free, while it is without any one of its ties."""
    need_web(web)
    if not is_tie_set_of(web, value) or is_free_set(web, value):
        return False
    return all([is_free_set(web, value[:at] + value[at + 1:]) for at in range(len(value))])


def bind_with(web, ties, tie):
    """The bind all of whose ties are this one and some of the free set; None if there is none."""
    need_web(web)
    need_ties(web, ties)
    need_tie(web, tie)
    if tie in ties:
        raise InvalidTie("the tie is in the set")
    need_free(web, ties)
    return some_bind(web, sorted([*ties, tie]))


def lightest_free(web, weights):
    """The least sum of weights of a greatest free set, and one that has it."""
    need_web(web)
    several = tie_list(web)
    need_weights(weights, len(several))
    lightest = tuple(lightest_ties(web, weights, several))
    return weight_of(web, weights, lightest), lightest


def is_lightest(web, weights, ties):
    """Whether the set is a greatest free set with the least sum of weights."""
    need_web(web)
    several = tie_list(web)
    need_weights(weights, len(several))
    need_ties(web, ties)
    lightest = lightest_ties(web, weights, several)
    if len(ties) != len(lightest) or not is_free_set(web, ties):
        return False
    return weight_of(web, weights, ties) == weight_of(web, weights, lightest)


def free_counts(web):
    """The list of the numbers of free sets with 0, 1, 2, .. ties, up to those of a greatest one."""
    need_web(web)
    several = tie_list(web)
    if len(several) > MOST_TIES_TO_COUNT:
        raise TooMany(MOST_TIES_TO_COUNT)
    counts = []
    free = [()]
    while free:
        counts.append(len(free))
        # Each free set comes once: from the one without its last tie, which is free, too.
        longer = [some + (tie,) for some in free for tie in several if some == () or some[-1] < tie]
        free = [some for some in longer if is_free_set(web, some)]
    return counts
