"""The first dyeing of a web, number by number: each is the least behind which the others can still be told."""

from signrounds.sizes import halves_table, is_untied, lots_within, part_sums


def agree(sign, one, other):
    """Whether two places tied by this sign may have these numbers."""
    return one != sign * other


def agrees_with_last(web, row):
    """Whether the last number of the row may stand beside those ahead of it."""
    last = len(row) - 1
    return all([web[last][place] == 0 or agree(web[last][place], row[-1], one) for place, one in enumerate(row[:-1])])


def barred_from(web, row, number):
    """The lot of the places behind the row that may not have the number because of those in the row."""
    lot = 0
    for place in range(len(row), len(web)):
        signs = [(web[place][at], one) for at, one in enumerate(row) if web[place][at] != 0]
        if not all([agree(sign, number, one) for sign, one in signs]):
            lot += 1 << place
    return lot


def suits(halves, barred):
    """Whether the lot with these halves can have a size from whose two numbers these two lots are barred."""
    if halves is None:
        return False
    above, below = barred
    return all([
        not (one & above or half & below) or not (one & below or half & above)
        for one, half in halves
    ])


def can_share(table, left, bars, few, known):
    """Whether the places left can be parted in one lot for each size that has bars and in few further ones.

    few tells for each lot whether further sizes alone are enough for it; known keeps what was found.
    """
    if few[left] or not bars:
        return few[left]
    key = (left, len(bars))
    if key not in known:
        known[key] = False
        for part in lots_within(left):
            if suits(table[part], bars[0]) and can_share(table, left ^ part, bars[1:], few, known):
                known[key] = True
                break
    return known[key]


def lots_for_nought(web, table, row, nonzero):
    """The lots of places behind the row that may all have 0."""
    if nonzero:
        return [0]
    rest = len(table) - (1 << len(row))
    barred = barred_from(web, row, 0)
    return [lot for lot in lots_within(rest) if not lot & barred and is_untied(table[lot])]


def goes_on(web, lots, row, count, nonzero):
    """Whether the row is the beginning of a dyeing; lots are the halves of each and the fewest sizes for it."""
    table, fewest = lots
    sizes = sorted({abs(number) for number in row if number != 0})
    bars = [(barred_from(web, row, size), barred_from(web, row, -size)) for size in sizes]
    few = [least <= count - len(sizes) for least in fewest]
    rest = len(table) - (1 << len(row))
    known = {}
    for lot in lots_for_nought(web, table, row, nonzero):
        if can_share(table, rest ^ lot, bars, few, known):
            return True
    return False


def next_number(web, lots, row, count, nonzero):
    """The least number that may stand behind the row; None if there is none."""
    for number in range(-count, count + 1):
        longer = row + [number]
        if (number != 0 or not nonzero) and agrees_with_last(web, longer):
            if goes_on(web, lots, longer, count, nonzero):
                return number
    return None


def first_row(web, count, nonzero):
    """The first dyeing of this width; None if there is none."""
    table = halves_table(web)
    fewest = [[at for at, worth in enumerate(counts) if worth][0] for counts in part_sums(table, len(web))]
    row = []
    while len(row) < len(web):
        number = next_number(web, (table, fewest), row, count, nonzero)
        if number is None:
            return None
        row.append(number)
    return tuple(row)
