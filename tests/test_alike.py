import unittest
from itertools import permutations, product as rows_of

from signrounds.alike import (
    are_alike, form, form_turning, is_unlike_ring, kin_count, kin_row, product, turning_between, turnings_between,
    unlike_ring,
)
from signrounds.camps import is_balanced
from signrounds.errors import NotAlike, TooMany
from signrounds.webs import opposite
from tests.calls import many_values
from tests.counts import (
    class_anew, exactly, form_anew, leading_anew, number_anew, pieces_anew, renamed_anew, rounds_anew,
    same_ties_anew, sign_anew, turned_anew,
)
from tests.samples import (
    Draw, all_ties_webs, circle_web, drawn_webs, empty_web, full_web, lots_of, signings, small_webs, spoilt,
)


def pairs_of_webs(seed, least=5, most=10):
    """Pairs with the same ties, some alike, some not."""
    draw = Draw(seed)
    for web in drawn_webs(seed, 4, least, most):
        yield web, turned_anew(web, draw.lot(len(web)))
        yield web, draw.resigned(web)
        yield web, web


def small_pairs():
    """All pairs with the same ties of up to three places, and many of four."""
    draw = Draw(41)
    for many in (1, 2, 3):
        for calm in all_ties_webs(many):
            yield from rows_of(signings(calm), repeat=2)
    for calm in all_ties_webs(4):
        webs = list(signings(calm))
        for web in webs:
            yield web, draw.one(webs)
            yield web, turned_anew(web, draw.lot(4))


def all_pairs(seed):
    return list(small_pairs()) + list(pairs_of_webs(seed))


def unlike_webs():
    """Pairs whose ties are not the same, also of unlike numbers of places."""
    yield empty_web(1), empty_web(2)
    yield empty_web(2), full_web(2, 1)
    yield circle_web(4, True), full_web(4, 1)
    yield full_web(10, 1), full_web(9, 1)
    yield circle_web(3, True), circle_web(10, True)
    yield ((0, 1, 0), (1, 0, 0), (0, 0, 0)), ((0, 0, 1), (0, 0, 0), (1, 0, 0))


class Alike(unittest.TestCase):
    def unlike(self, web, other, ring):
        """That this is a round that is bad in just one of them."""
        self.assertIsInstance(ring, tuple)
        self.assertTrue(len(set(ring)) == len(ring) >= 3)
        self.assertTrue(all(web[ring[at - 1]][ring[at]] for at in range(len(ring))))
        self.assertTrue(ring[0] == min(ring) and ring[1] < ring[-1])
        self.assertNotEqual(sign_anew(web, ring), sign_anew(other, ring))

    def test_leading_lots(self):
        for web, other in all_pairs(42):
            told = leading_anew(web, other)
            self.assertIs(are_alike(web, other), bool(told))
            if told:
                self.assertEqual(turnings_between(web, other), told)
                self.assertEqual(turning_between(web, other), told[0])
                self.assertIsNone(unlike_ring(web, other))
            else:
                self.unlike(web, other, unlike_ring(web, other))
                for function in (turning_between, turnings_between):
                    with self.assertRaises(NotAlike) as caught:
                        function(web, other)
                    self.unlike(web, other, caught.exception.ring)

    def test_product(self):
        for web, other in all_pairs(43):
            places = range(len(web))
            signs = tuple(
                tuple(0 if not web[x][y] else 1 if web[x][y] == other[x][y] else -1 for y in places) for x in places
            )
            self.assertEqual(product(web, other), signs)

    def test_other_ties(self):
        for pair in unlike_webs():
            for web, other in (pair, pair[::-1]):
                self.assertIs(are_alike(web, other), False)
                for value in many_values() + rounds_anew(web)[:3] + rounds_anew(other)[:3] if len(web) < 9 else []:
                    self.assertIs(is_unlike_ring(web, other, value), False)
                for function in (product, turning_between, turnings_between, unlike_ring):
                    with self.assertRaises(NotAlike) as caught:
                        function(web, other)
                    self.assertEqual(caught.exception.ring, ())

    def test_is_unlike_ring(self):
        draw = Draw(44)
        for web in list(small_webs(3)) + [full_web(4, 1), circle_web(5, True), *drawn_webs(44, 4, 4, 6)]:
            other = draw.resigned(web)
            several = rounds_anew(web)
            told = [ring for ring in several if sign_anew(web, ring) != sign_anew(other, ring)]
            values = several + many_values() + [value for ring in told[:5] for value in spoilt(ring)]
            for value in values:
                kept = repr(value)
                self.assertIs(is_unlike_ring(web, other, value), exactly(value, told), value)
                self.assertEqual(repr(value), kept)

    def test_no_ties(self):
        self.assertEqual(turnings_between(empty_web(10), empty_web(10)), lots_of(10))
        self.assertEqual(turning_between(empty_web(10), empty_web(10)), ())

    def test_form(self):
        for web in list(small_webs()) + list(drawn_webs(45, 4, 5, 8)):
            self.assertEqual(form(web), form_anew(web))
            self.assertEqual(form_turning(web), leading_anew(web, form_anew(web))[0])

    def test_form_of_ten_places(self):
        for web in list(drawn_webs(46, 4, 9, 10)) + [empty_web(10), full_web(10, -1)]:
            self.assertEqual(form(web), form_anew(web))
            self.assertEqual(turned_anew(web, form_turning(web)), form(web))
            self.assertEqual(form_turning(web), leading_anew(web, form(web))[0])


class Kin(unittest.TestCase):
    def rows_anew(self, web, other):
        if len(web) != len(other):
            return []
        members = set(class_anew(other))
        return [row for row in permutations(range(len(web))) if renamed_anew(web, row) in members]

    def check(self, web, other):
        told = self.rows_anew(web, other)
        self.assertEqual(kin_row(web, other), told[0] if told else None)

    def test_kin_of_small_webs(self):
        webs = list(small_webs(3))
        for web in webs:
            self.assertEqual(kin_count(web), len(self.rows_anew(web, web)))
            for other in webs:
                self.check(web, other)
        draw = Draw(47)
        for web in list(small_webs())[::7]:
            self.assertEqual(kin_count(web), len(self.rows_anew(web, web)))
            self.check(web, renamed_anew(turned_anew(web, draw.lot(len(web))), draw.row(len(web))))
            self.check(web, draw.resigned(web))

    def test_kin_of_greater_webs(self):
        draw = Draw(48)
        for web in list(drawn_webs(48, 4, 5, 6)) + [circle_web(7, True), empty_web(7), full_web(6, -1)]:
            self.check(web, renamed_anew(turned_anew(web, draw.lot(len(web))), draw.row(len(web))))
            self.check(web, draw.resigned(web))
            self.assertEqual(kin_count(web), len(self.rows_anew(web, web)))

    def test_seven_and_eight_places(self):
        self.assertEqual(kin_row(full_web(7, 1), full_web(7, 1)), tuple(range(7)))
        self.assertIsNone(kin_row(full_web(7, 1), full_web(7, -1)))
        self.assertEqual([kin_count(full_web(7, -1)), kin_count(empty_web(7)), kin_count(circle_web(7, True))],
                         [5040, 5040, 14])
        small, great = circle_web(3, True), circle_web(8, True)
        self.assertIsNone(kin_row(small, circle_web(7, True)))
        for function, webs in ((kin_row, (small, great)), (kin_row, (great, small)), (kin_row, (great, great)),
                               (kin_count, (great,)), (kin_count, (full_web(10, 1),)), (kin_count, (empty_web(8),))):
            with self.assertRaises(TooMany) as caught:
                function(*webs)
            self.assertEqual(caught.exception.count, 7)


class Facts(unittest.TestCase):
    def test_c1_either(self):
        for web, other in all_pairs(49):
            same = are_alike(web, other)
            self.assertIs(same, is_balanced(product(web, other)))
            self.assertIs(same, form(web) == form(other))
            self.assertIs(same, unlike_ring(web, other) is None)
            if len(web) < 7:
                signs = [[sign_anew(one, ring) for ring in rounds_anew(web)] for one in (web, other)]
                self.assertIs(same, signs[0] == signs[1])
            if same:
                told = turnings_between(web, other)
                self.assertEqual(len(told), 2 ** len(pieces_anew(web)))
                for lot in told:
                    for piece in pieces_anew(web):
                        self.assertIn(tuple(sorted(set(lot) ^ set(piece))), told)

    def test_c2_a_likeness(self):
        draw = Draw(50)
        for web in list(small_webs()) + list(drawn_webs(50)):
            lot = draw.lot(len(web))
            other = turned_anew(web, lot)
            self.assertTrue(are_alike(web, web) and are_alike(web, other) and are_alike(other, web))
            self.assertEqual(form(other), form(web))
            self.assertEqual(form(form(web)), form(web))

    def test_c3_kin(self):
        draw = Draw(51)
        for web in list(small_webs())[::3] + list(drawn_webs(51, 4, 5, 6)):
            many = len(web)
            fits = kin_count(web)
            total = 1
            for at in range(many):
                total *= at + 1
            self.assertEqual(total % fits, 0)
            self.assertEqual(kin_count(turned_anew(web, draw.lot(many))), fits)
            self.assertEqual(kin_count(opposite(web)), fits)
            other = turned_anew(renamed_anew(web, draw.row(many)), draw.lot(many))
            third = turned_anew(renamed_anew(other, draw.row(many)), draw.lot(many))
            for one, more in ((web, web), (web, other), (other, web), (other, third), (web, third)):
                self.assertIsNotNone(kin_row(one, more))
            self.assertEqual(kin_count(other), fits)

    def test_forms_have_numbers(self):
        for web, other in small_pairs():
            if same_ties_anew(web, other):
                self.assertIs(are_alike(web, other), number_anew(web) == number_anew(other))


if __name__ == "__main__":
    unittest.main()
