import unittest
from itertools import product

from signrounds.rests import (
    ailing, calmed, calming_lengths, heavy_lot, is_at_rest, is_calming, nth_rest, rest_count,
)
from signrounds.trouble import nth_best_camp, best_camp_count, trouble
from signrounds.webs import changed, turned, web_told
from tests.calls import many_values
from tests.counts import across_anew, exactly, foes_anew, turned_anew
from tests.samples import (
    Draw, circle_web, drawn_webs, empty_web, full_web, lots_of, pairs_tied, small_webs, spoilt, web_of,
)


def ailing_anew(web):
    return tuple(place for place, row in enumerate(web) if row.count(-1) > row.count(1))


def calming_anew(web):
    """All calming rows of the web."""
    places = ailing_anew(web)
    if not places:
        return [[]]
    return [[place] + row for place in places for row in calming_anew(turned_anew(web, (place,)))]


def some_webs(seed):
    calm = turned_anew(full_web(10, 1), (1, 2, 5, 9))
    parts = {(0, 1): -1, (0, 2): -1, (1, 2): 1, (3, 4): -1, (5, 6): 1, (5, 7): -1, (6, 7): -1, (7, 8): -1, (6, 8): 1}
    return list(drawn_webs(seed)) + [calm, changed(calm, (0, 1)), web_of(10, parts), full_web(10, 1),
                                     circle_web(10, True), empty_web(1), empty_web(10), full_web(9, -1)]


class Ailing(unittest.TestCase):
    def test_ailing_and_at_rest(self):
        for web in list(small_webs()) + some_webs(301):
            self.assertEqual(ailing(web), ailing_anew(web))
            self.assertIs(is_at_rest(web), not ailing_anew(web))
        self.assertEqual(ailing(full_web(10, -1)), tuple(range(10)))
        self.assertEqual(ailing(circle_web(5, True)), ())

    def test_as_many_foes_as_friends_do_not_ail(self):
        web = web_of(3, {(0, 1): 1, (0, 2): -1})
        self.assertEqual(ailing(web), (2,))

    def test_heavy_lot(self):
        for web in list(small_webs()) + some_webs(302):
            heavy = [lot for lot in lots_of(len(web)) if sum(across_anew(web, lot)) < 0]
            self.assertEqual(heavy_lot(web), heavy[0] if heavy else None)

    def test_at_rest_and_still_heavy(self):
        six = web_told(".-...+/-.+.../.+.+../..+.-./...-.+/+...+.")
        self.assertEqual([is_at_rest(six), heavy_lot(six)], [True, (0, 4, 5)])


class Calming(unittest.TestCase):
    def test_rows_of_small_webs(self):
        for web in small_webs(3):
            rows = calming_anew(web)
            for size in range(5):
                for row in product(range(-1, len(web) + 1), repeat=size):
                    self.assertIs(is_calming(web, list(row)), list(row) in rows)

    def test_rows_of_four_places(self):
        for web in list(small_webs())[::12] + [full_web(4, -1)]:
            rows = calming_anew(web)
            for size in range(5):
                for row in product(range(4), repeat=size):
                    self.assertIs(is_calming(web, list(row)), list(row) in rows)

    def test_calmed(self):
        for web in list(small_webs()) + some_webs(303) + [full_web(10, -1)]:
            row, rest = [], web
            while ailing_anew(rest):
                row.append(ailing_anew(rest)[0])
                rest = turned_anew(rest, row[-1:])
            self.assertEqual(calmed(web), (row, rest))
            self.assertIs(is_calming(web, row), True)
            self.assertIs(is_calming(web, tuple(row)), False)

    def test_lengths(self):
        for web in list(small_webs()) + list(drawn_webs(304, 4, 5, 6)) + [full_web(5, -1), circle_web(6, True)]:
            lengths = [len(row) for row in calming_anew(web)]
            self.assertEqual(calming_lengths(web), (min(lengths), max(lengths)))
        self.assertEqual(calming_lengths(web_of(10, {(at, at + 1): -1 for at in range(9)})), (4, 5))
        self.assertEqual(calming_lengths(full_web(10, -1)), (5, 5))
        for web in (empty_web(1), empty_web(10), full_web(10, 1), circle_web(10, True)):
            self.assertEqual([calming_lengths(web), calmed(web)], [(0, 0), ([], web)])

    def test_lengths_of_greater_webs(self):
        draw = Draw(305)
        for web in some_webs(305):
            shortest, longest = calming_lengths(web)
            for _ in range(6):
                row, rest = [], web
                while ailing_anew(rest):
                    row.append(draw.one(ailing_anew(rest)))
                    rest = turned_anew(rest, row[-1:])
                self.assertTrue(shortest <= len(row) <= longest)

    def test_a_place_may_come_several_times(self):
        web = web_of(4, {(0, 3): -1, (1, 2): -1, (1, 3): -1, (2, 3): -1})
        self.assertIn([0, 3, 0], calming_anew(web))
        self.assertTrue(is_calming(web, [0, 3, 0]))
        self.assertFalse(is_calming(web, [0, 0, 3]))
        for web in drawn_webs(306, 3, 5, 6):
            for row in calming_anew(web)[:20]:
                self.assertTrue(is_calming(web, row))

    def test_any_value(self):
        for web in (full_web(4, -1), full_web(3, 1), web_of(5, {(0, 1): -1, (1, 2): -1, (2, 3): -1, (3, 4): -1})):
            rows = calming_anew(web)
            for value in many_values() + [value for row in rows[:6] for value in spoilt(row)]:
                kept = repr(value)
                self.assertIs(is_calming(web, value), exactly(value, rows), value)
                self.assertEqual(repr(value), kept)

    def test_new_at_each_call(self):
        web = full_web(4, -1)
        calmed(web)[0].append(0)
        self.assertEqual(calmed(web)[0], [0, 1])


class Rests(unittest.TestCase):
    def test_rests(self):
        for web in list(small_webs()) + some_webs(307):
            rests = [lot for lot in lots_of(len(web)) if not ailing_anew(turned_anew(web, lot))]
            self.assertEqual(rest_count(web), len(rests))
            for at in {0, 1, len(rests) // 2, len(rests) - 1}:
                self.assertEqual(nth_rest(web, at), rests[at])
            for at in (len(rests), len(rests) + 1, 10**89):
                self.assertIsNone(nth_rest(web, at))

    def test_each_rest(self):
        for web in list(small_webs(3)) + list(drawn_webs(308, 4, 5, 6)):
            rests = [lot for lot in lots_of(len(web)) if not ailing_anew(turned_anew(web, lot))]
            self.assertEqual([nth_rest(web, at) for at in range(len(rests) + 1)], rests + [None])

    def test_edges(self):
        self.assertEqual([rest_count(empty_web(10)), nth_rest(empty_web(10), 1023)], [1024, tuple(range(10))])
        self.assertEqual([rest_count(empty_web(1)), nth_rest(empty_web(1), 0), nth_rest(empty_web(1), 1)], [2, (), (0,)])
        self.assertEqual(rest_count(full_web(10, -1)), 252)


class Facts(unittest.TestCase):
    def test_e6_best_camps_are_rests(self):
        for web in list(small_webs()) + some_webs(311):
            few = len(foes_anew(web)) == trouble(web)
            self.assertIs(few, heavy_lot(web) is None)
            if few:
                self.assertTrue(is_at_rest(web))
            for at in range(min(8, best_camp_count(web))):
                other = turned(web, nth_best_camp(web, at))
                self.assertTrue(is_at_rest(other))
                self.assertIsNone(heavy_lot(other))
                self.assertEqual(len(foes_anew(other)), trouble(web))
            self.assertGreaterEqual(rest_count(web), best_camp_count(web))

    def test_e7_fewer_foes(self):
        draw = Draw(312)
        for web in list(small_webs()) + some_webs(312):
            for place in ailing(web):
                other = turned(web, (place,))
                self.assertNotIn(place, ailing(other))
                self.assertLess(len(foes_anew(other)), len(foes_anew(web)))
            row, rest = [], web
            while ailing(rest):
                row.append(draw.one(ailing(rest)))
                rest = turned(rest, (row[-1],))
                self.assertTrue(is_calming(web, row + calmed(rest)[0]))
            self.assertLessEqual(len(row), len(foes_anew(web)) - len(foes_anew(rest)))

    def test_e8_half_of_the_ties(self):
        for web in list(small_webs()) + some_webs(313):
            if is_at_rest(web):
                self.assertLessEqual(2 * len(foes_anew(web)), len(pairs_tied(web)))
            rest = calmed(web)[1]
            self.assertLessEqual(2 * len(foes_anew(rest)), len(pairs_tied(web)))


if __name__ == "__main__":
    unittest.main()
