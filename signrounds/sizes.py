"""Lots whose places can have numbers of one size in a dyeing, and the polynomials that these lots make.

A lot is told by figures to the base 2, the place x by the figure that is worth 1 << x. Of two tied places of
one size, not 0, a friend has the opposite number and a foe the same one. So each piece of such a lot is parted
in two halves, and either of them may be the one above 0.
"""


def tied_figures(web, sign):
    """For each place the lot of those that are tied with it by this sign."""
    return [sum([1 << place for place, one in enumerate(row) if one == sign]) for row in web]


def with_more(halves, place, friends, foes):
    """The halves of the pieces of a lot with this place more; None if it cannot have the size.

    They are None, too, if the lot as it is cannot have it.
    """
    if halves is None:
        return None
    same, other = 1 << place, 0
    told = []
    for one, half in halves:
        if not (friends | foes) & (one | half):
            told.append((one, half))
        elif not friends & one and not foes & half:
            same, other = same | one, other | half
        elif not friends & half and not foes & one:
            same, other = same | half, other | one
        else:
            return None
    return told + [(same, other)]


def halves_table(web):
    """For each lot the list of the two halves of each of its pieces; None if it cannot have one size."""
    friends, foes = tied_figures(web, 1), tied_figures(web, -1)
    table = [[]]
    for place in range(len(web)):
        table = table + [with_more(halves, place, friends[place], foes[place]) for halves in table]
    return table


def is_untied(halves):
    """Whether the lot with these halves has no ties between its places."""
    return halves is not None and all([one & (one - 1) == 0 and half == 0 for one, half in halves])


def lots_within(lot):
    """All lots that this one contains, with () and itself."""
    told = [lot]
    while told[-1]:
        told.append((told[-1] - 1) & lot)
    return told


def part_sums(table, many):
    """For each lot the list that has at index k its partings in k lots of one size each, as a sum.

    Each parting counts 2 to the power of the pieces of its lots, less k: so often its k sizes can be had, each
    with or without its sign.
    """
    sums = [[1] + [0] * many]
    for lot in range(1, len(table)):
        first = lot & -lot
        counts = [0] * (many + 1)
        for rest in lots_within(lot ^ first):
            halves = table[first | rest]
            if halves is not None:
                worth = 1 << (len(halves) - 1)
                for at, more in enumerate(sums[lot ^ first ^ rest][:many]):
                    counts[at + 1] += worth * more
        sums.append(counts)
    return sums


def times_less(polynomial, root):
    """The polynomial times (u - root)."""
    return [low - root * high for low, high in zip([0] + polynomial, polynomial + [0])]


def spread(counts, root):
    """The sum of counts[k] times (u - root) * (u - root - 2) * .. with k factors, as a polynomial."""
    total = [0] * len(counts)
    factors = [1]
    for count in counts:
        longer = factors + [0] * (len(counts) - len(factors))
        total = [old + count * one for old, one in zip(total, longer)]
        factors = times_less(factors, root)
        root += 2
    return total


def dye_polynomial(web, nonzero):
    """The polynomial whose value at 2 * k + 1, or of nonzero dyeings at 2 * k, is their number of the width k."""
    table = halves_table(web)
    sums = part_sums(table, len(web))
    if nonzero:
        return spread(sums[-1], 0)
    # Whatever has no ties may have 0; k sizes are left for the others, and 2 * k is one less than the value.
    rests = [sums[len(table) - 1 - lot] for lot, halves in enumerate(table) if is_untied(halves)]
    return spread([sum(counts) for counts in zip(*rests)], 1)


def value_at(polynomial, point):
    """The value of the polynomial at the point."""
    total = 0
    for factor in reversed(polynomial):
        total = total * point + factor
    return total
