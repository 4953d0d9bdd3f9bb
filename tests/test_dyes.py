import unittest
from itertools import combinations, product

from signrounds.dyes import dyeing_count, first_dyeing, is_dyeing, least_width, polynomial
from signrounds.errors import InvalidCount, InvalidWeb
from signrounds.webs import beside, less_tie, turned
from tests.calls import many_values
from tests.counts import calm_pieces_by_spreading, exactly, inner_anew, pieces_by_ties, sets_of, web_of_set
from tests.samples import (
    Draw, circle_web, drawn_webs, empty_web, full_web, lots_of, pairs_tied, small_webs, spoilt, web_of,
)


def goes(web, row):
    """Whether no tie is wrong among the first places, whose numbers these are."""
    for x, y in combinations(range(len(row)), 2):
        if web[x][y] == 1 and row[x] == row[y] or web[x][y] == -1 and row[x] == -row[y]:
            return False
    return True


def dyeings_anew(web, count, nonzero=False):
    """All dyeings of the width, ascending, told place by place."""
    numbers = [number for number in range(-count, count + 1) if number or not nonzero]
    rows = [()]
    for _ in web:
        rows = [row + (number,) for row in rows for number in numbers if goes(web, row + (number,))]
    return rows


def first_anew(web, count, nonzero=False, row=()):
    """The first dyeing, by trying."""
    if len(row) == len(web):
        return row
    for number in range(-count, count + 1):
        if (number or not nonzero) and goes(web, row + (number,)):
            found = first_anew(web, count, nonzero, row + (number,))
            if found is not None:
                return found
    return None


def at_point(told, point):
    return sum(factor * point**power for power, factor in enumerate(told))


def times(one, other):
    told = [0] * (len(one) + len(other) - 1)
    for (low, a), (high, b) in product(enumerate(one), enumerate(other)):
        told[low + high] += a * b
    return told


def summed(several, many):
    told = [0] * many
    for one in several:
        for at, factor in enumerate(one):
            told[at] += factor
    return told


def powers_of_less(many):
    """(u - 1) ** many."""
    told = [1]
    for _ in range(many):
        told = times(told, [-1, 1])
    return told


def some_webs(seed):
    calm = turned(full_web(5, 1), (1, 4))
    return list(drawn_webs(seed, 4, 5, 6)) + [calm, circle_web(6, True), circle_web(6, False), full_web(5, -1),
                                              beside(circle_web(3, True), full_web(2, 1)), empty_web(5)]


def great_webs(seed):
    calm = turned(full_web(10, 1), (1, 2, 5, 9))
    return list(drawn_webs(seed, 4, 7, 10)) + [
        calm, full_web(10, 1), full_web(10, -1), full_web(9, -1), empty_web(10), circle_web(10, True),
        circle_web(9, False), beside(full_web(5, -1), circle_web(5, True)), beside(full_web(4, 1), empty_web(6))]


class Counting(unittest.TestCase):
    def check(self, web, most):
        for nonzero in (False, True):
            least = None
            for count in range(most + 1):
                rows = dyeings_anew(web, count, nonzero)
                self.assertEqual(dyeing_count(web, count, nonzero), len(rows))
                self.assertEqual(first_dyeing(web, count, nonzero), rows[0] if rows else None)
                if rows and least is None:
                    least = count
            if least is not None:
                self.assertEqual(least_width(web, nonzero), least)
            else:
                self.assertGreater(least_width(web, nonzero), most)

    def test_of_small_webs(self):
        for web in small_webs(3):
            self.check(web, 4)
        for web in list(small_webs())[31:]:
            self.check(web, 2)

    def test_of_greater_webs(self):
        for web in some_webs(701):
            self.check(web, 2)
        for web in list(drawn_webs(702, 4, 7, 8)) + [full_web(7, -1), circle_web(8, True)]:
            self.check(web, 1)

    def test_first_dyeings_by_trying(self):
        for web in list(drawn_webs(703, 4, 6, 8)) + [full_web(6, 1), full_web(7, -1)]:
            for nonzero in (False, True):
                least = least_width(web, nonzero)
                self.assertIsNone(first_anew(web, least - 1, nonzero) if least else None)
                for count in (least, least + 1, least + 4):
                    self.assertEqual(first_dyeing(web, count, nonzero), first_anew(web, count, nonzero))

    def test_first_dyeings_of_ten_places(self):
        for web in great_webs(704):
            for nonzero in (False, True):
                least = least_width(web, nonzero)
                self.assertIsNone(first_dyeing(web, least - 1, nonzero) if least else None)
                self.assertEqual(dyeing_count(web, least - 1, nonzero) if least else 0, 0)
                self.assertGreater(dyeing_count(web, least, nonzero), 0)
                for count in (least, least + 1, 1000):
                    told = first_dyeing(web, count, nonzero)
                    self.assertTrue(is_dyeing(web, count, told, nonzero))
                    self.assertTrue(goes(web, told) and max(map(abs, told)) <= count)
                    self.assertFalse(nonzero and 0 in told)
                # With numbers enough no place must give way to one behind it.
                told = ()
                for _ in web:
                    left = [number for number in range(-40, 41) if number or not nonzero]
                    told += (min(number for number in left if goes(web, told + (number,))),)
                self.assertEqual(first_dyeing(web, 40, nonzero), told)

    def test_known_numbers(self):
        for many in range(1, 11):
            friends = [1]
            for root in range(many):
                friends = times(friends, [-root, 1])
            for nonzero in (False, True):
                self.assertEqual(polynomial(full_web(many, 1), nonzero), friends)
                self.assertEqual(polynomial(empty_web(many), nonzero), [0] * many + [1])
                self.assertEqual(least_width(empty_web(many), nonzero), int(nonzero))
                self.assertEqual(first_dyeing(empty_web(many), 1000, nonzero), (-1000,) * many)
            self.assertEqual(first_dyeing(full_web(many, 1), 1000), tuple(range(-1000, many - 1000)))
            # All foes: no number and its opposite are both used, and 0 at most once.
            self.assertEqual(least_width(full_web(many, -1)), int(many > 1))
            self.assertEqual(dyeing_count(full_web(many, -1), 1, True), 2)
            self.assertEqual(dyeing_count(full_web(many, -1), 1), 2 + 2 * many if many > 1 else 3)
        for many in range(3, 11):
            power, last = powers_of_less(many), (-1) ** many
            self.assertEqual(polynomial(circle_web(many, True)), power)
            self.assertEqual(polynomial(circle_web(many, True), True), [power[0] - last] + power[1:])
            good = [power[0] - last, power[1] + last] + power[2:]
            self.assertEqual([polynomial(circle_web(many, False), one) for one in (False, True)], [good, good])
        self.assertEqual(dyeing_count(empty_web(10), 1000), 2001**10)
        self.assertEqual(dyeing_count(empty_web(10), 1000, True), 2000**10)

    def test_width_nought(self):
        for web in list(small_webs()) + great_webs(705):
            tied = bool(pairs_tied(web))
            self.assertEqual(dyeing_count(web, 0), int(not tied))
            self.assertEqual(dyeing_count(web, 0, True), 0)
            self.assertEqual(first_dyeing(web, 0), None if tied else (0,) * len(web))
            self.assertIsNone(first_dyeing(web, 0, True))
            self.assertIs(is_dyeing(web, 0, (0,) * len(web)), not tied)
            self.assertIs(is_dyeing(web, 0, (0,) * len(web), True), False)
            self.assertIs(least_width(web) == 0, not tied)

    def test_by_position_and_by_name(self):
        web = circle_web(3, True)
        self.assertEqual([dyeing_count(web, 1, True), dyeing_count(web, count=1, nonzero=True)], [2, 2])
        self.assertEqual([polynomial(web, True), polynomial(nonzero=True, web=web)], [[0, 3, -3, 1]] * 2)
        self.assertEqual([is_dyeing(web, 1, (-1, 0, -1), True), is_dyeing(web, 1, (-1, 0, -1), nonzero=False)],
                         [False, is_dyeing(web, 1, (-1, 0, -1))])
        self.assertEqual(first_dyeing(web, 2, True), first_dyeing(nonzero=True, count=2, web=web))
        self.assertEqual([least_width(full_web(3, 1), True), least_width(full_web(3, 1), nonzero=False)], [2, 1])

    def test_counts_at_their_ends(self):
        web = full_web(3, -1)
        for function in (dyeing_count, first_dyeing):
            function(web, 0)
            function(web, 1000)
            for count in (-1, 1001, True, None, "1"):
                with self.assertRaises(InvalidCount):
                    function(web, count)
                with self.assertRaises(InvalidWeb):
                    function((web,), count)
        for count in (-1, 1001, True, None):
            with self.assertRaises(InvalidCount):
                is_dyeing(web, count, (1, 2, 3))

    def test_polynomials_are_new_at_each_call(self):
        web = full_web(3, 1)
        polynomial(web).clear()
        self.assertEqual(polynomial(web), [0, 2, -3, 1])


class AnyValue(unittest.TestCase):
    def test_all_rows_of_small_webs(self):
        for web in list(small_webs(3)) + list(small_webs())[31::9]:
            for nonzero in (False, True):
                for count in (0, 1, 2):
                    good = set(dyeings_anew(web, count, nonzero))
                    reach = count + 1 if len(web) < 4 else min(count, 1)
                    for row in product(range(-reach, reach + 1), repeat=len(web)):
                        self.assertIs(is_dyeing(web, count, row, nonzero), row in good)

    def test_spoilt_ones(self):
        for web in (full_web(3, 1), circle_web(3, True), empty_web(2), web_of(4, {(0, 1): -1, (1, 2): 1})):
            for nonzero in (False, True):
                good = dyeings_anew(web, 2, nonzero)
                several = [value for row in good[::7] for value in spoilt(row)]
                for value in many_values() + several:
                    kept = repr(value)
                    self.assertIs(is_dyeing(web, 2, value, nonzero), exactly(value, good), value)
                    self.assertEqual(repr(value), kept)

    def test_of_ten_places(self):
        web = full_web(10, -1)
        self.assertTrue(is_dyeing(web, 1000, (7,) * 10, True))
        self.assertTrue(is_dyeing(web, 7, (7,) * 10))
        self.assertFalse(is_dyeing(web, 6, (7,) * 10))
        self.assertFalse(is_dyeing(web, 7, (7,) * 9 + (-7,)))
        self.assertTrue(is_dyeing(web, 7, (7,) * 9 + (0,)))
        self.assertFalse(is_dyeing(web, 7, (7,) * 9 + (0,), True))
        self.assertFalse(is_dyeing(web, 7, (7,) * 8 + (0, 0)))
        self.assertFalse(is_dyeing(web, 1000, (10**89,) * 10))


class Facts(unittest.TestCase):
    def webs(self, seed):
        return list(small_webs()) + [web for web in some_webs(seed) if len(pairs_tied(web)) < 10]

    def test_values_tell_the_numbers(self):
        for web in list(small_webs())[::5] + great_webs(711):
            for nonzero in (False, True):
                told = polynomial(web, nonzero)
                self.assertEqual(len(told), len(web) + 1)
                for count in (0, 1, 2, 3, 10, 1000):
                    point = 2 * count if nonzero else 2 * count + 1
                    self.assertEqual(at_point(told, point), dyeing_count(web, count, nonzero))

    def test_j1_sums_over_sets(self):
        for web in self.webs(712):
            many = len(web) + 1
            both, calm_only = [], []
            for some in sets_of(pairs_tied(web)):
                only = web_of_set(web, some)
                calm = len(calm_pieces_by_spreading(only))
                one = [0] * calm + [(-1) ** len(some)]
                both.append(one)
                if calm == len(pieces_by_ties(only)):
                    calm_only.append(one)
            self.assertEqual(polynomial(web), summed(both, many))
            self.assertEqual(polynomial(web, nonzero=True), summed(calm_only, many))

    def test_j2_places_with_nought(self):
        for web in list(small_webs())[::3] + some_webs(713) + great_webs(713)[::5]:
            told = polynomial(web)
            parts = []
            for lot in lots_of(len(web)):
                if not any(x in lot and y in lot for x, y in pairs_tied(web)):
                    left = [place for place in range(len(web)) if place not in lot]
                    parts.append(polynomial(inner_anew(web, left), True) if left else [1])
            for point in range(-3, 9):
                self.assertEqual(at_point(told, point), sum(at_point(part, point - 1) for part in parts))

    def test_j3_signs(self):
        for web in list(small_webs()) + some_webs(714) + great_webs(714):
            calm, pieces = len(calm_pieces_by_spreading(web)), len(pieces_by_ties(web))
            whole, without = polynomial(web), polynomial(web, nonzero=True)
            for told, least in ((whole, calm), (without, pieces)):
                self.assertEqual([told[-1], told[-2]], [1, -len(pairs_tied(web))])
                self.assertEqual(told[:least], [0] * least)
                for power in range(least, len(web) + 1):
                    self.assertGreater(told[power] * (-1) ** (len(web) - power), 0)
                for one, two, three in zip(told, told[1:], told[2:]):
                    self.assertGreaterEqual(two * two, one * three)
            self.assertIs(whole == without, calm == pieces)

    def test_j4_alike_and_beside(self):
        draw = Draw(715)
        for web in list(small_webs())[::3] + great_webs(715):
            lot = draw.lot(len(web))
            other = turned(web, lot)
            for nonzero in (False, True):
                self.assertEqual(polynomial(other, nonzero), polynomial(web, nonzero))
            row = first_dyeing(web, 5)
            moved = tuple(-number if place in lot else number for place, number in enumerate(row))
            self.assertTrue(is_dyeing(other, 5, moved))
        several = list(small_webs())[::40]
        for one, other in zip(several, several[::-1]):
            for nonzero in (False, True):
                told = polynomial(beside(one, other), nonzero)
                self.assertEqual(told, times(polynomial(one, nonzero), polynomial(other, nonzero)))

    def test_j5_a_tie_less(self):
        for web in list(small_webs())[::4] + some_webs(716)[::3]:
            for x, y in pairs_tied(web):
                for nonzero in (False, True):
                    kept = set(dyeings_anew(web, 2, nonzero))
                    more = dyeings_anew(less_tie(web, (x, y)), 2, nonzero)
                    self.assertLessEqual(kept, set(more))
                    for row in more:
                        self.assertIs(row in kept, row[x] != web[x][y] * row[y])


if __name__ == "__main__":
    unittest.main()
