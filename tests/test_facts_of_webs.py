"""The facts A1 to A6."""

import unittest
from itertools import combinations

from signrounds.webs import (
    bad_rings, first_forest, is_ring, opposite, ring_sign, ring_told, rings, ties, turned, web_text, web_told,
)
from tests.counts import pieces_anew, rounds_anew, ties_anew, ways_anew
from tests.samples import Draw, drawn_webs, full_web, lots_of, small_webs


def many_webs(seed):
    return list(small_webs()) + list(drawn_webs(seed))


class Facts(unittest.TestCase):
    def test_a1_texts(self):
        for web in many_webs(31):
            self.assertEqual(web_told(web_text(web)), web)

    def test_a2_turned_twice(self):
        draw = Draw(32)
        for web in many_webs(32):
            for lot in (draw.lot(len(web)), draw.lot(len(web)), ()):
                more = draw.lot(len(web))
                self.assertEqual(turned(turned(web, lot), lot), web)
                crossing = any((x in lot) != (y in lot) for x, y in ties(web))
                self.assertIs(turned(web, lot) == web, not crossing)
                just_one = tuple(sorted(set(lot) ^ set(more)))
                self.assertEqual(turned(turned(web, lot), more), turned(web, just_one))

    def test_a2_all_lots(self):
        for web in small_webs():
            for lot in lots_of(len(web)):
                crossing = any((x in lot) != (y in lot) for x, y in ties(web))
                self.assertIs(turned(web, lot) == web, not crossing)
                self.assertEqual(turned(turned(web, lot), lot), web)

    def test_a3_turned_and_opposite_rounds(self):
        draw = Draw(33)
        for web in list(small_webs()) + list(drawn_webs(33, 4, 5, 7)):
            lot = draw.lot(len(web))
            self.assertEqual(ties(turned(web, lot)), ties(web))
            self.assertEqual(rings(turned(web, lot)), rings(web))
            self.assertEqual(bad_rings(turned(web, lot)), bad_rings(web))
            for ring in rings(web):
                other = ring_sign(web, ring) * (-1 if len(ring) % 2 else 1)
                self.assertEqual(ring_sign(opposite(web), ring), other)

    def test_a4_first_forest(self):
        for web in list(small_webs()) + list(drawn_webs(34, 4, 5, 6)):
            forest = first_forest(web)
            many = len(web)
            self.assertEqual(len(forest), many - len(pieces_anew(web)))
            for tie in set(ties(web)) - set(forest):
                closed = [ring for ring in rounds_anew(web) if set(ties_anew(ring)) <= {*forest, tie}]
                self.assertEqual(len(closed), 1)
            only = tuple(tuple(1 if (min(x, y), max(x, y)) in forest else 0 for y in range(many)) for x in range(many))
            self.assertEqual(rounds_anew(only), [])

    def test_a5_three_ways(self):
        for web in list(small_webs()) + list(drawn_webs(35, 3, 5, 5)) + [full_web(5, -1)]:
            for start, goal in combinations(range(len(web)), 2):
                for three in combinations(ways_anew(web, start, goal), 3):
                    insides = [set(way[1:-1]) for way in three]
                    if not any(a & b for a, b in combinations(insides, 2)):
                        made = [ring_told(web, a + b[-2:0:-1]) for a, b in combinations(three, 2)]
                        self.assertTrue(all(is_ring(web, ring) for ring in made))
                        self.assertIn(sum(ring_sign(web, ring) == -1 for ring in made), (0, 2))

    def test_a6_length_of_texts(self):
        for web in many_webs(36):
            many = len(web)
            self.assertEqual(len(web_text(web)), many * many + many - 1)


if __name__ == "__main__":
    unittest.main()
