import unittest

from signrounds.camps import bad_ring, balanced_pieces, by_camp, camp, camps, is_bad_ring, is_balanced, is_camp
from signrounds.errors import NotBalanced
from signrounds.webs import beside, opposite
from tests.calls import many_values
from tests.counts import camps_anew, exactly, pieces_anew, rounds_anew, sign_anew, turned_anew
from tests.samples import (
    Draw, circle_web, drawn_webs, empty_web, full_web, lots_of, pairs_tied, signings, small_webs, spoilt, web_of,
)


def balanced_webs(seed, least=5, most=10):
    """Drawn webs that have a camp."""
    draw = Draw(seed)
    for web in drawn_webs(seed, 4, least, most):
        calm = tuple(tuple(abs(sign) for sign in row) for row in web)
        yield turned_anew(calm, draw.lot(len(web)))


def greater_webs(seed):
    return list(drawn_webs(seed, 4, 5, 10)) + list(balanced_webs(seed)) + [empty_web(10), full_web(10, -1)]


class Camps(unittest.TestCase):
    def bad(self, web, ring):
        """That this is a bad round of the web, told as it must be."""
        self.assertIsInstance(ring, tuple)
        self.assertGreaterEqual(len(ring), 3)
        self.assertEqual(len(set(ring)), len(ring))
        self.assertTrue(all(web[ring[at - 1]][ring[at]] for at in range(len(ring))))
        self.assertTrue(ring[0] == min(ring) and ring[1] < ring[-1])
        self.assertEqual(sign_anew(web, ring), -1)

    def check(self, web):
        told = camps_anew(web)
        self.assertIs(is_balanced(web), bool(told))
        if told:
            self.assertEqual(camps(web), told)
            firsts = {piece[0] for piece in pieces_anew(web)}
            self.assertEqual([camp(web)], [lot for lot in told if firsts <= set(lot)])
            self.assertIsNone(bad_ring(web))
        else:
            self.bad(web, bad_ring(web))
            for function in (camp, camps):
                with self.assertRaises(NotBalanced) as caught:
                    function(web)
                self.bad(web, caught.exception.ring)

    def test_camps_of_small_webs(self):
        for web in small_webs():
            self.check(web)
            told = camps_anew(web)
            for lot in lots_of(len(web)):
                self.assertIs(is_camp(web, lot), lot in told)

    def test_camps_of_greater_webs(self):
        for web in greater_webs(21) + [circle_web(10, True), circle_web(10, False), circle_web(9, True)]:
            self.check(web)

    def test_edges(self):
        self.assertEqual([camp(empty_web(1)), camps(empty_web(1))], [(0,), [(), (0,)]])
        self.assertEqual(camps(empty_web(10)), lots_of(10))
        self.assertEqual(camp(empty_web(10)), tuple(range(10)))
        self.assertEqual(camps(full_web(10, 1)), [(), tuple(range(10))])
        self.assertTrue(is_camp(full_web(10, 1), ()))
        self.assertTrue(is_camp(full_web(10, 1), tuple(range(10))))
        self.assertFalse(is_camp(full_web(10, 1), (0,)))
        self.assertEqual(balanced_pieces(empty_web(3)), [(0,), (1,), (2,)])

    def test_is_bad_ring(self):
        for web in list(small_webs(3)) + [full_web(4, -1), circle_web(5, True), *drawn_webs(22, 4, 4, 6)]:
            several = rounds_anew(web)
            bad = [ring for ring in several if sign_anew(web, ring) == -1]
            for value in several + many_values() + [value for ring in bad[:6] for value in spoilt(ring)]:
                self.assertIs(is_bad_ring(web, value), exactly(value, bad), value)
        self.assertTrue(is_bad_ring(circle_web(10, True), tuple(range(10))))
        self.assertFalse(is_bad_ring(circle_web(10, False), tuple(range(10))))

    def test_balanced_pieces(self):
        for web in list(small_webs()) + list(drawn_webs(23, 4, 5, 8)):
            told = []
            for piece in pieces_anew(web):
                part = tuple(tuple(web[x][y] for y in piece) for x in piece)
                if camps_anew(part):
                    told.append(piece)
            self.assertEqual(balanced_pieces(web), told)
        both = beside(circle_web(3, True), beside(circle_web(4, False), empty_web(1)))
        self.assertEqual(balanced_pieces(both), [(3, 4, 5, 6), (7,)])

    def test_by_camp(self):
        for web in list(small_webs(3)) + list(drawn_webs(24)):
            for lot in lots_of(len(web))[:30] + [tuple(range(len(web)))]:
                told = by_camp(web, lot)
                signs = {(x, y): -1 if (x in lot) != (y in lot) else 1 for x, y in pairs_tied(web)}
                self.assertEqual(told, web_of(len(web), signs))


class Facts(unittest.TestCase):
    def test_b1_a_camp_or_a_bad_round(self):
        for web in small_webs():
            bad = [ring for ring in rounds_anew(web) if sign_anew(web, ring) == -1]
            self.assertIs(is_balanced(web), not bad)
            self.assertIs(bad_ring(web) is None, not bad)

    def test_b2_number_of_camps_and_turned(self):
        for web in list(small_webs()) + list(balanced_webs(25)):
            if is_balanced(web):
                told = camps(web)
                self.assertEqual(len(told), 2 ** len(pieces_anew(web)))
                for piece in pieces_anew(web):
                    halves = {tuple(place for place in lot if place in piece) for lot in told}
                    self.assertEqual(len(halves), 2)
                    self.assertEqual(sorted(sum(halves, ())), list(piece))
        for web in list(small_webs()) + list(balanced_webs(26, 5, 7)):
            for lot in lots_of(len(web)):
                has_foe = any(-1 in row for row in turned_anew(web, lot))
                self.assertIs(is_camp(web, lot), not has_foe)

    def test_b3_by_camp(self):
        for web in list(small_webs()) + list(drawn_webs(27, 4, 5, 6)):
            calm = tuple(tuple(abs(sign) for sign in row) for row in web)
            found = {}
            for lot in lots_of(len(web)):
                told = by_camp(web, lot)
                self.assertEqual(told, turned_anew(calm, lot))
                self.assertTrue(is_camp(told, lot))
                sides = tuple(
                    frozenset(tuple(p for p in piece if (p in lot) == inside) for inside in (True, False))
                    for piece in pieces_anew(web)
                )
                self.assertEqual(found.setdefault(told, sides), sides)
            self.assertEqual(len(set(found.values())), len(found))
            self.assertEqual(len(found), 2 ** (len(web) - len(pieces_anew(web))))
            if len(pairs_tied(web)) <= 6:
                self.assertEqual(sorted(found), sorted(one for one in signings(web) if is_balanced(one)))

    def test_b4_no_rounds_and_opposite(self):
        for web in list(small_webs()) + list(balanced_webs(28, 5, 6)) + list(drawn_webs(28, 2, 5, 6)):
            several = rounds_anew(web)
            if not several:
                self.assertTrue(is_balanced(web))
            if is_balanced(web):
                self.assertIs(is_balanced(opposite(web)), all(len(ring) % 2 == 0 for ring in several))

    def test_b5_piece_by_piece(self):
        for web in list(small_webs()) + greater_webs(29):
            self.assertIs(is_balanced(web), balanced_pieces(web) == pieces_anew(web))


if __name__ == "__main__":
    unittest.main()
