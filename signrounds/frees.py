"""Steps on free sets of ties: at most one round in each piece, a bad one."""


def taken_ties(web, several):
    """The ties taken in this sequence: each that makes a free set together with those taken ahead of it.

    By G1 they are as many as any free set of these ties has.
    """
    label = list(range(len(web)))
    side = [1] * len(web)
    has_round = [False] * len(web)
    taken = []
    for x, y in several:
        one, other = label[x], label[y]
        agrees = side[x] * side[y] == web[x][y]
        if one != other and not (has_round[one] and has_round[other]):
            side = [-old if name == other and not agrees else old for old, name in zip(side, label)]
            label = [one if name == other else name for name in label]
            has_round[one] = has_round[one] or has_round[other]
            taken.append((x, y))
        elif one == other and not agrees and not has_round[one]:
            has_round[one] = True
            taken.append((x, y))
    return taken


def is_free_set(web, several):
    """Whether the ties are a free set."""
    return len(taken_ties(web, several)) == len(several)


def some_bind(web, several):
    """A bind all of whose ties are among these; None if they are free."""
    if is_free_set(web, several):
        return None
    left = tuple(several)
    for tie in several:
        fewer = tuple([one for one in left if one != tie])
        if not is_free_set(web, fewer):
            left = fewer
    return left


def lightest_ties(web, weights, several):
    """A greatest free set of the least sum of weights, ascending; the weights belong to these ties."""
    in_turn = [tie for _, tie in sorted(zip(weights, several))]
    return sorted(taken_ties(web, in_turn))
