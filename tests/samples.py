"""Webs and values for the tests, the same in each run."""

from itertools import combinations, product


class Draw:
    """Numbers that look drawn, and are the same in each run and under each Python."""

    def __init__(self, seed):
        self.state = seed

    def below(self, many):
        self.state = (self.state * 6364136223846793005 + 1442695040888963407) % 2**64
        return (self.state >> 33) % many

    def one(self, parts):
        return parts[self.below(len(parts))]

    def lot(self, many):
        return tuple(place for place in range(many) if self.below(2))

    def row(self, many):
        left, told = list(range(many)), []
        while left:
            told.append(left.pop(self.below(len(left))))
        return tuple(told)

    def web(self, many, tied, foes=50):
        """A web in which about so many of a hundred pairs are tied, about so many of a hundred ties foes."""
        signs = {}
        for pair in combinations(range(many), 2):
            if self.below(100) < tied:
                signs[pair] = -1 if self.below(100) < foes else 1
        return web_of(many, signs)

    def resigned(self, web):
        """A web with the same ties and other signs."""
        return web_of(len(web), {pair: self.one((1, -1)) for pair in pairs_tied(web)})


def web_of(many, signs):
    """The web of so many places with these signs, told as a dict by pairs."""
    return tuple(tuple(signs.get((min(x, y), max(x, y)), 0) for y in range(many)) for x in range(many))


def pairs_tied(web):
    return [(x, y) for x, y in combinations(range(len(web)), 2) if web[x][y]]


def all_webs(many):
    """All webs of so many places."""
    pairs = list(combinations(range(many), 2))
    for signs in product((0, 1, -1), repeat=len(pairs)):
        yield web_of(many, dict(zip(pairs, signs)))


def small_webs(most=4):
    """All webs of up to so many places."""
    for many in range(1, most + 1):
        yield from all_webs(many)


def all_ties_webs(many):
    """For each set of ties of so many places the web with friends alone."""
    pairs = list(combinations(range(many), 2))
    for signs in product((0, 1), repeat=len(pairs)):
        yield web_of(many, dict(zip(pairs, signs)))


def signings(web):
    """All webs with the ties of this one."""
    pairs = pairs_tied(web)
    for signs in product((1, -1), repeat=len(pairs)):
        yield web_of(len(web), dict(zip(pairs, signs)))


def drawn_webs(seed, each=4, least=5, most=10):
    """Webs of these numbers of places, of few and of many ties."""
    draw = Draw(seed)
    for many in range(least, most + 1):
        for tied in (15, 35, 60, 100)[:each]:
            yield draw.web(many, tied)


def full_web(many, sign):
    """All places tied, by this sign."""
    return web_of(many, {pair: sign for pair in combinations(range(many), 2)})


def empty_web(many):
    return web_of(many, {})


def circle_web(many, bad):
    """A web of one round, bad or good."""
    signs = {(at, at + 1): 1 for at in range(many - 1)}
    signs[(0, many - 1)] = -1 if bad else 1
    return web_of(many, signs)


def lots_of(many):
    """All lots in lot order."""
    return [lot for size in range(many + 1) for lot in combinations(range(many), size)]


def nested(depth, inner=0, make=lambda inside: (inside,)):
    value = inner
    for _ in range(depth):
        value = make(value)
    return value


# Values of all kinds. None of them is more than a number, a short tuple of numbers, or a text.
OTHERS = [
    None, True, False, 10**89, -(10**89), "", "0", "(0, 1)", ".+/+.", "x" * 20000,
    [], [0], [0, 1], [0, 1, 2], [[0]], [(0, 1, 2)], [1, -1], [(0, 1), (1, 0)],
    (None,), (True,), (False,), ("0",), (None, None), (False, True), ("a", 1), (0, "b", 2), ([],), ([0], [1]),
    (0, [1]), (0, True, 2), (False, 1, 2), (0, 1, None), ((0, 1), [0, 1]), (10**89,), (-1,), (-3, -2, -1),
    ((True,),), ((False,),), ((0, True), (True, 0)), ("x", "y"), (((),),), ((), ()),
    nested(40), nested(40, ()), nested(40, 0, lambda inside: [inside]), nested(40, (), lambda inside: (0, inside)),
    tuple(range(3000)), (0,) * 3000, ((0,),) * 1500, [()] * 2999,
]


def spoilt(value):
    """Values that differ from this one at one spot, of a tuple that may have tuples in it."""
    if isinstance(value, (tuple, list)):
        kept = list(value)
        make = type(value)
        yield (list if make is tuple else tuple)(kept)
        for at in range(len(kept)):
            yield make(kept[:at] + kept[at + 1:])
            yield make(kept[:at] + [kept[at]] + kept[at:])
            if at:
                yield make(kept[:at - 1] + [kept[at], kept[at - 1]] + kept[at + 1:])
            for other in spoilt(kept[at]):
                yield make(kept[:at] + [other] + kept[at + 1:])
        for more in (0, -1, 10**89, None, True, (), "0"):
            yield make(kept + [more])
            yield make([more] + kept)
        yield make([value])
    elif isinstance(value, int):
        yield from (value + 1, value - 1, -value - 1, value + 100, None, str(value), (value,), [value], value == 1)
        if value in (0, 1):
            yield bool(value)
