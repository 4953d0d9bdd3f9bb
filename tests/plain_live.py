"""A live web done anew on plain signs by pairs of marks, from the words of the document, and drawn deeds."""

import copy
from itertools import combinations

from signrounds.errors import (
    InvalidCount, InvalidDeeds, InvalidLot, InvalidPlace, InvalidSign, NoSpan, NothingToUndo, OverLimit, Refused,
    SignError, TooMany,
)
from tests.samples import pairs_tied, web_of

PARAMETERS = {"come": 2, "leave": 1, "tie": 3, "untie": 2, "flip": 2, "turn": 1, "draw": 2, "shake": 1, "relax": 1}
METHODS = """come leave tie untie flip turn draw shake row troubles view_foes moments would undo begin keep drop
    twin""".split()
FIELDS = ["web", "view", "start", "marks", "next_mark", "turned", "deeds", "depth"]


def is_number(value):
    return type(value) is int


def least_foes(web):
    """The trouble: the least number of wrong ties, by sides told as figures."""
    many, ties = len(web), [(x, y, web[x][y] == -1) for x, y in pairs_tied(web)]
    several = range(2 ** (many - 1))
    return min(sum(((sides >> x ^ sides >> y) & 1 == 1) != foe for x, y, foe in ties) for sides in several)


def alike_anew(web, other):
    """Whether signs spread from place to place lead from the one to the other."""
    if pairs_tied(web) != pairs_tied(other):
        return False
    side = {}
    for start in range(len(web)):
        if start not in side:
            side[start], waiting = 1, [start]
            while waiting:
                x = waiting.pop()
                for y in range(len(web)):
                    if web[x][y] and y not in side:
                        side[y] = side[x] * web[x][y] * other[x][y]
                        waiting.append(y)
    return all(side[x] * side[y] * web[x][y] == other[x][y] for x, y in pairs_tied(web))


class Situation:
    """What stands between two deeds."""

    def __init__(self, web, limit):
        self.marks = list(range(len(web)))
        self.signs = {frozenset(pair): web[pair[0]][pair[1]] for pair in pairs_tied(web)}
        self.next_mark = len(web)
        self.turned = set()
        self.limit = limit

    def sign(self, one, other):
        return self.signs.get(frozenset((one, other)), 0)

    def in_view(self, one, other):
        return self.sign(one, other) * (-1 if (one in self.turned) != (other in self.turned) else 1)

    def web_by(self, sign):
        pairs = combinations(range(len(self.marks)), 2)
        return web_of(len(self.marks), {(x, y): sign(self.marks[x], self.marks[y]) for x, y in pairs})

    def web(self):
        return self.web_by(self.sign)

    def view(self):
        return self.web_by(self.in_view)

    def foes_in_view(self):
        return sum(self.in_view(one, other) == -1 for one, other in combinations(self.marks, 2))

    def settle(self):
        row = []
        while True:
            ailing = [one for one in self.marks if sum(self.in_view(one, other) for other in self.marks) < 0]
            if not ailing:
                return row
            self.turned ^= {ailing[0]}
            row.append(ailing[0])

    def need_mark(self, mark):
        if not is_number(mark) or mark not in self.marks:
            raise InvalidPlace("")

    def need_two(self, mark, other_mark):
        self.need_mark(mark)
        self.need_mark(other_mark)
        if mark == other_mark:
            raise InvalidPlace("")

    def need_marks(self, marks):
        if not isinstance(marks, tuple) or not all(is_number(mark) and mark in self.marks for mark in marks):
            raise InvalidLot("")
        if any(low >= high for low, high in zip(marks, marks[1:])):
            raise InvalidLot("")

    def remove(self, mark):
        self.marks.remove(mark)
        self.turned -= {mark}
        self.signs = {pair: sign for pair, sign in self.signs.items() if mark not in pair}

    def come(self, friends, foes):
        self.need_marks(friends)
        self.need_marks(foes)
        if set(friends) & set(foes):
            raise Refused("")
        if len(self.marks) == 10:
            raise TooMany(10)
        for mark in friends + foes:
            self.signs[frozenset((mark, self.next_mark))] = 1 if mark in friends else -1
        self.marks.append(self.next_mark)
        self.next_mark += 1
        return self.next_mark - 1

    def leave(self, mark):
        self.need_mark(mark)
        if len(self.marks) == 1:
            raise Refused("")
        self.remove(mark)

    def tie(self, mark, other_mark, sign):
        self.need_two(mark, other_mark)
        if not is_number(sign) or sign not in (1, -1):
            raise InvalidSign("")
        if self.sign(mark, other_mark):
            raise Refused("")
        self.signs[frozenset((mark, other_mark))] = sign

    def untie(self, mark, other_mark):
        self.need_two(mark, other_mark)
        if not self.sign(mark, other_mark):
            raise Refused("")
        return self.signs.pop(frozenset((mark, other_mark)))

    def flip(self, mark, other_mark):
        self.need_two(mark, other_mark)
        if not self.sign(mark, other_mark):
            raise Refused("")
        self.signs[frozenset((mark, other_mark))] *= -1
        return self.sign(mark, other_mark)

    def turn(self, marks):
        self.need_marks(marks)
        for pair in self.signs:
            if len(pair & set(marks)) == 1:
                self.signs[pair] *= -1
        self.turned ^= set(marks)

    def draw(self, mark, other_mark):
        self.need_two(mark, other_mark)
        others = [one for one in self.marks if one not in (mark, other_mark)]
        clashing = any(self.sign(mark, one) * self.sign(other_mark, one) == -1 for one in others)
        if self.sign(mark, other_mark) != 1 or clashing:
            raise Refused("")
        for one in others:
            if self.sign(mark, one):
                self.signs[frozenset((other_mark, one))] = self.sign(mark, one)
        self.remove(mark)

    def shake(self, marks):
        self.need_marks(marks)
        before = self.foes_in_view()
        self.turned ^= set(marks)
        row = self.settle()
        if self.foes_in_view() >= before:
            raise Refused("")
        self.shaken = list(marks) + row

    def relax(self, number):
        if not is_number(number) or number < 0:
            raise InvalidCount("")
        self.limit = number

    def do(self, deed):
        """Do the deed; tell the row and the answer."""
        answer = getattr(self, deed[0])(*deed[1:])
        row = self.shaken if deed[0] == "shake" else [] if deed[0] == "turn" else self.settle()
        trouble = least_foes(self.web())
        if self.limit is not None and trouble > self.limit:
            raise OverLimit(trouble)
        return tuple(row), answer


class Plain:
    """Situations behind 0, 1, .. deeds, the deeds, their rows and answers, and the spans."""

    def __init__(self, web, limit=None):
        self.start, self.first_limit = web, limit
        self.situations = [Situation(web, limit)]
        self.situations[0].settle()
        self.deeds, self.rows, self.spans = [], [], []

    def last(self):
        return self.situations[-1]

    def is_deed(self, deed):
        if not isinstance(deed, tuple) or not deed or not isinstance(deed[0], str):
            return False
        if deed[0] == "relax" and self.first_limit is None:
            return False
        return PARAMETERS.get(deed[0], -1) == len(deed) - 1

    def tried(self, deed):
        """The situation, the row and the answer that the deed would have."""
        if not self.is_deed(deed):
            raise InvalidDeeds(0)
        situation = copy.deepcopy(self.last())
        return (situation, *situation.do(deed))

    def do(self, deed):
        situation, row, answer = self.tried(deed)
        self.situations.append(situation)
        self.deeds.append(deed)
        self.rows.append(row)
        return answer

    def would(self, deed):
        situation, row, _ = self.tried(deed)
        return least_foes(situation.web()), situation.foes_in_view(), row

    def undo(self):
        if len(self.deeds) <= (self.spans[-1] if self.spans else 0):
            raise NothingToUndo("")
        self.situations.pop()
        self.rows.pop()
        return self.deeds.pop()

    def begin(self):
        self.spans.append(len(self.deeds))

    def keep(self):
        if not self.spans:
            raise NoSpan("")
        self.spans.pop()

    def drop(self):
        if not self.spans:
            raise NoSpan("")
        first = self.spans.pop()
        del self.situations[first + 1:], self.deeds[first:], self.rows[first:]

    def fields(self):
        last = self.last()
        told = [last.web(), last.view(), self.start, tuple(last.marks), last.next_mark, tuple(sorted(last.turned)),
                list(self.deeds), len(self.spans)]
        return told + ([] if self.first_limit is None else [last.limit, self.first_limit])

    def moments(self):
        groups = []
        for at, situation in enumerate(self.situations):
            for group in groups:
                first = self.situations[group[0]]
                if first.marks == situation.marks and alike_anew(first.web(), situation.web()):
                    group.append(at)
                    break
            else:
                groups.append([at])
        return [tuple(group) for group in groups]


def fields_of(live, limited):
    """What the fields of a live web tell, in the sequence of those of a plain one."""
    return [getattr(live, name) for name in FIELDS + (["limit", "first_limit"] if limited else [])]


def answer_or_error(function, *values):
    """What a call tells, or the kind of its error and its fields."""
    try:
        return ("told", repr(function(*values)))
    except SignError as error:
        return (type(error).__name__, vars(error))


WRONG_MARKS = [-1, 99, True, False, None, "0", (), (0,), 10**89]
WRONG_LOTS_OF_MARKS = [
    None, 0, True, [], [0], "0", (1, 0), (0, 0), (99,), (True,), (0, None), (-1,), ((0,),), (10**89,),
]


def drawn_deed(draw, situation, limited=False, wrong=12):
    """A deed that mostly goes with what is there; about so many of a hundred have a wrong value."""
    marks = situation.marks
    some = [mark for mark in marks if draw.below(3) == 0]
    one, other = draw.one(marks), draw.one(marks)
    tied = [tuple(sorted(pair)) for pair in situation.signs]
    if tied and draw.below(2):
        one, other = draw.one(sorted(tied))[::draw.one((1, -1))]
    names = ["come", "come", "leave", "tie", "tie", "tie", "untie", "flip", "flip", "turn", "draw", "shake", "shake"]
    name = draw.one(names + (["relax"] if limited else []))
    foes = [mark for mark in marks if draw.below(3) == 0 and mark not in some]
    deed = {
        "come": ("come", tuple(some), tuple(foes)), "leave": ("leave", one),
        "tie": ("tie", one, other, draw.one((1, -1))), "untie": ("untie", one, other),
        "flip": ("flip", one, other), "turn": ("turn", tuple(some)),
        "draw": ("draw", one, other), "shake": ("shake", tuple(some)), "relax": ("relax", draw.below(6)),
    }[name]
    if draw.below(100) < wrong:
        at = 1 + draw.below(len(deed) - 1)
        kinds = WRONG_LOTS_OF_MARKS if name in ("come", "turn", "shake") else WRONG_MARKS + [one]
        deed = deed[:at] + (draw.one(kinds),) + deed[at + 1:]
    return deed
