import unittest
from itertools import combinations

from signrounds.lumps import (
    bad_pair, bad_ring_at, common_places, common_ties, good_ring_at, joints, least_leaving, lump_troubles, lumps,
)
from signrounds.trouble import trouble
from signrounds.webs import beside, changed, less_tie
from tests.counts import (
    balanced_anew, camps_anew, exactly, inner_anew, joined_anew, rounds_anew, sign_anew, ties_anew, trouble_anew,
    turned_anew, without_anew,
)
from tests.samples import (
    all_ties_webs, circle_web, drawn_webs, empty_web, full_web, lots_of, pairs_tied, small_webs, web_of,
)


def lumps_anew(web):
    """All lumps, from all lots, in lot order."""
    stay = [lot for lot in lots_of(len(web)) if joined_anew(web, lot) and
            (len(lot) == 1 or all(joined_anew(web, lot[:at] + lot[at + 1:]) for at in range(len(lot))))]
    return [lot for lot in stay if not any(set(lot) < set(more) for more in stay)]


def by_sign(web, sign):
    return [ring for ring in rounds_anew(web) if sign_anew(web, ring) == sign]


def others(web, lot):
    return tuple(place for place in range(len(web)) if place not in lot)


def leaves_balance(web, lot):
    left = others(web, lot)
    return not left or bool(camps_anew(inner_anew(web, left)))


# Two lumps of three places at a joint, a tie to a third, and a place alone.
CHAIN = web_of(9, {(0, 1): -1, (0, 2): 1, (1, 2): 1, (2, 3): 1, (2, 4): 1, (3, 4): 1, (4, 5): -1,
                   (5, 6): 1, (5, 7): -1, (6, 7): -1})


def some_webs(seed, least=5, most=7):
    calm = turned_anew(full_web(6, 1), (1, 2, 5))
    return list(drawn_webs(seed, 4, least, most)) + list(drawn_webs(seed + 1, 3, 5, 6)) + [
        calm, changed(calm, (0, 1)), full_web(6, -1), circle_web(7, True), circle_web(6, False), empty_web(1),
        beside(full_web(3, -1), full_web(3, -1)), beside(circle_web(4, True), circle_web(3, False)),
    ]


def great_webs():
    calm = turned_anew(full_web(10, 1), (1, 2, 5, 9))
    return [calm, changed(calm, (0, 1)), full_web(10, -1), full_web(10, 1), empty_web(10), circle_web(10, True), CHAIN,
            circle_web(10, False), beside(full_web(5, -1), full_web(5, -1)), *drawn_webs(321, 4, 8, 10)]


class Lumps(unittest.TestCase):
    def check(self, web):
        told = lumps_anew(web)
        self.assertEqual(lumps(web), told)
        self.assertEqual(joints(web), tuple(x for x in range(len(web)) if sum(x in lump for lump in told) > 1))
        self.assertEqual(lump_troubles(web), [(lump, trouble_anew(inner_anew(web, lump))) for lump in told])

    def test_of_small_webs(self):
        for web in small_webs():
            self.check(web)

    def test_of_all_ties_of_five_places(self):
        for web in list(all_ties_webs(5))[::5]:
            self.check(web)

    def test_of_greater_webs(self):
        for web in some_webs(322) + list(drawn_webs(323, 4, 8, 9)) + [CHAIN, circle_web(9, True)]:
            self.check(web)

    def test_edges(self):
        self.assertEqual([lumps(empty_web(1)), joints(empty_web(1)), lump_troubles(empty_web(1))],
                         [[(0,)], (), [((0,), 0)]])
        self.assertEqual(lumps(empty_web(10)), [(place,) for place in range(10)])
        self.assertEqual([lumps(full_web(2, -1)), joints(full_web(2, -1))], [[(0, 1)], ()])
        self.assertEqual([lumps(CHAIN), joints(CHAIN)], [[(8,), (4, 5), (0, 1, 2), (2, 3, 4), (5, 6, 7)], (2, 4, 5)])
        self.assertEqual(lump_troubles(CHAIN), [((8,), 0), ((4, 5), 0), ((0, 1, 2), 1), ((2, 3, 4), 0), ((5, 6, 7), 0)])
        star = web_of(10, {(4, at): -1 for at in range(10) if at != 4} | {(at, 4): -1 for at in range(4)})
        self.assertEqual([joints(star), len(lumps(star))], [(4,), 9])
        self.assertEqual(lumps(full_web(10, -1)), [tuple(range(10))])
        self.assertEqual(lump_troubles(full_web(10, -1)), [(tuple(range(10)), 20)])
        for web in (empty_web(10), full_web(10, 1)):
            lumps(web).clear()
            lump_troubles(web).clear()
            self.assertTrue(lumps(web) and lump_troubles(web))


class RoundsAtTies(unittest.TestCase):
    def check(self, web):
        for function, sign in ((bad_ring_at, -1), (good_ring_at, 1)):
            several = by_sign(web, sign)
            for tie in pairs_tied(web):
                good = [ring for ring in several if tie in ties_anew(ring)]
                told = function(web, tie)
                self.assertIs(told is None, not good)
                self.assertTrue(told is None or exactly(told, good))

    def test_of_small_webs(self):
        for web in small_webs():
            self.check(web)

    def test_of_greater_webs(self):
        for web in some_webs(324):
            self.check(web)

    def test_of_ten_places(self):
        for web in great_webs():
            found = {}
            for lump in lumps(web):
                found.update({tie: bool(camps_anew(inner_anew(web, lump))) for tie in combinations(lump, 2)})
            for tie in pairs_tied(web):
                for function, sign in ((bad_ring_at, -1), (good_ring_at, 1)):
                    told = function(web, tie)
                    if sign == -1:
                        self.assertIs(told is None, found[tie])
                    if told is not None:
                        self.assertIsInstance(told, tuple)
                        self.assertTrue(len(set(told)) == len(told) > 2 and told[0] == min(told) and told[1] < told[-1])
                        self.assertTrue(all(web[told[at - 1]][told[at]] for at in range(len(told))))
                        self.assertIn(tie, ties_anew(told))
                        self.assertEqual(sign_anew(web, told), sign)
        self.assertIsNone(good_ring_at(circle_web(10, True), (0, 9)))
        self.assertEqual(good_ring_at(circle_web(10, False), (3, 4)), tuple(range(10)))
        self.assertEqual(bad_ring_at(circle_web(10, True), (0, 9)), tuple(range(10)))
        self.assertIsNotNone(good_ring_at(full_web(10, -1), (0, 9)))


class Common(unittest.TestCase):
    def check(self, web):
        bad = by_sign(web, -1)
        ties = [tie for tie in pairs_tied(web) if bad and all(tie in ties_anew(ring) for ring in bad)]
        places = tuple(place for place in range(len(web)) if bad and all(place in ring for ring in bad))
        self.assertEqual([common_ties(web), common_places(web)], [ties, places])
        leaving = [lot for lot in lots_of(len(web)) if not any(set(lot).isdisjoint(ring) for ring in bad)]
        self.assertEqual(least_leaving(web), leaving[0])
        pairs = [(one, other) for one in bad for other in bad if not set(one) & set(other)]
        told = bad_pair(web)
        self.assertIs(told is None, not pairs)
        self.assertTrue(told is None or exactly(told, pairs))

    def test_of_small_webs(self):
        for web in small_webs():
            self.check(web)

    def test_of_greater_webs(self):
        for web in some_webs(325):
            self.check(web)
        self.check(beside(full_web(4, -1), full_web(3, -1)))

    def test_of_ten_places(self):
        for web in great_webs() + list(drawn_webs(326, 4, 8, 10)):
            if not camps_anew(web):
                self.assertEqual(common_ties(web), [tie for tie in pairs_tied(web)
                                                    if camps_anew(without_anew(web, [tie]))])
                self.assertEqual(common_places(web), tuple(x for x in range(len(web)) if leaves_balance(web, (x,))))
            else:
                self.assertEqual([common_ties(web), common_places(web), bad_pair(web)], [[], (), None])
            told = least_leaving(web)
            self.assertTrue(leaves_balance(web, told))
            lots = lots_of(len(web))
            ahead = lots[:lots.index(told)]
            self.assertFalse([lot for lot in ahead[-40:] if leaves_balance(web, lot)])

    def test_pairs_of_ten_places(self):
        for web in great_webs():
            told = bad_pair(web)
            lots = [lot for lot in lots_of(len(web)) if 3 <= len(lot) <= 5]
            there = any(not leaves_balance(web, lot) and not leaves_balance(web, others(web, lot)) for lot in lots)
            self.assertIs(told is not None, there)
            if told is not None:
                one, other = told
                self.assertIsInstance(told, tuple)
                self.assertFalse(set(one) & set(other))
                for ring in told:
                    self.assertTrue(ring[0] == min(ring) and ring[1] < ring[-1] and len(set(ring)) == len(ring) > 2)
                    self.assertTrue(all(web[ring[at - 1]][ring[at]] for at in range(len(ring))))
                    self.assertEqual(sign_anew(web, ring), -1)

    def test_edges(self):
        calm = full_web(10, 1)
        self.assertEqual([common_ties(calm), common_places(calm), least_leaving(calm), bad_pair(calm)],
                         [[], (), (), None])
        self.assertEqual(least_leaving(full_web(10, -1)), tuple(range(8)))
        circle = circle_web(10, True)
        self.assertEqual([common_ties(circle), common_places(circle), least_leaving(circle), bad_pair(circle)],
                         [pairs_tied(circle), tuple(range(10)), (0,), None])
        two = beside(circle_web(3, True), circle_web(7, True))
        self.assertEqual([common_ties(two), common_places(two), least_leaving(two)], [[], (), (0, 3)])
        self.assertEqual(sorted(bad_pair(two)), [(0, 1, 2), tuple(range(3, 10))])
        self.assertEqual([common_places(empty_web(1)), least_leaving(empty_web(1))], [(), ()])
        common_ties(circle).clear()
        self.assertEqual(len(common_ties(circle)), 10)


class Facts(unittest.TestCase):
    def webs(self, seed):
        return list(small_webs()) + some_webs(seed) + list(drawn_webs(seed + 2, 4, 8, 10)) + [CHAIN]

    def test_f1_lumps_and_trouble(self):
        for web in self.webs(331):
            told = lumps(web)
            self.assertTrue(all(len(set(one) & set(other)) < 2 for one, other in combinations(told, 2)))
            for x, y in pairs_tied(web):
                self.assertEqual(sum(x in lump and y in lump for lump in told), 1)
            self.assertEqual(trouble(web), sum(least for _, least in lump_troubles(web)))
            self.assertIs(bool(camps_anew(web)), all(camps_anew(inner_anew(web, lump)) for lump in told))

    def test_f2_bad_rounds_at_ties(self):
        for web in self.webs(332):
            for x, y in pairs_tied(web):
                (lump,) = [one for one in lumps(web) if x in one and y in one]
                self.assertIs(bad_ring_at(web, (x, y)) is None, bool(camps_anew(inner_anew(web, lump))))

    def test_f3_common_ties_and_places(self):
        for web in self.webs(333):
            if trouble(web):
                for tie in pairs_tied(web):
                    self.assertIs(tie in common_ties(web), bool(camps_anew(less_tie(web, tie))))
                for place in range(len(web)):
                    self.assertIs(place in common_places(web), leaves_balance(web, (place,)))
                self.assertIs(trouble(web) == 1, common_ties(web) != [])

    def test_f4_least_leaving(self):
        for web in self.webs(334):
            told = least_leaving(web)
            self.assertLessEqual(len(told), trouble(web))
            if bad_pair(web) is not None:
                self.assertGreaterEqual(len(told), 2)
            self.assertIs(len(told) < 2, bool(camps_anew(web)) or common_places(web) != ())
            self.assertIs(len(told) < 1, bool(camps_anew(web)))

    def test_of_foes_two_places_are_left(self):
        for many in range(3, 11):
            self.assertEqual(len(least_leaving(full_web(many, -1))), many - 2)
        self.assertTrue(balanced_anew(full_web(2, -1)))


if __name__ == "__main__":
    unittest.main()
