import unittest
from itertools import combinations

from signrounds.camps import is_balanced
from signrounds.errors import TooMany
from signrounds.trouble import (
    best_camp_count, is_apart, is_cure, least_bearing, least_cures, most_apart, nth_best_camp, trouble, wrong_ties,
)
from signrounds.webs import changed, less_tie, turned
from tests.calls import many_values
from tests.counts import (
    across_anew, balanced_anew, camps_anew, exactly, foes_anew, pieces_anew, rounds_anew, sets_of, sign_anew, ties_anew,
    trouble_anew, turned_anew, with_other_signs, without_anew, wrong_anew,
)
from tests.samples import (
    Draw, circle_web, drawn_webs, empty_web, full_web, lots_of, pairs_tied, small_webs, spoilt, web_of,
)


def bad_anew(web):
    return [ring for ring in rounds_anew(web) if sign_anew(web, ring) == -1]


def apart_anew(several):
    """The greatest number of these rounds no two of which have a common tie."""
    if not several:
        return 0
    first, *rest = several
    clear = [ring for ring in rest if not set(ties_anew(ring)) & set(ties_anew(first))]
    return max(1 + apart_anew(clear), apart_anew(rest) if len(clear) < len(rest) else 0)


def two_webs():
    """Webs of several pieces, balanced ones and ones with a tie changed, of 10 places among them."""
    calm = turned_anew(full_web(10, 1), (0, 3, 4, 8))
    parts = {(0, 1): -1, (0, 2): 1, (1, 2): 1, (3, 4): -1, (5, 6): 1, (5, 7): 1, (6, 7): -1, (7, 8): 1, (6, 8): 1}
    return [calm, changed(calm, (2, 7)), web_of(10, parts), circle_web(10, True), circle_web(10, False),
            full_web(10, -1), full_web(10, 1), empty_web(10), empty_web(1), full_web(2, -1)]


class Trouble(unittest.TestCase):
    def check(self, web):
        lots = lots_of(len(web))
        wrong = {lot: wrong_anew(web, lot) for lot in lots}
        least = min(map(len, wrong.values()))
        best = [lot for lot in lots if len(wrong[lot]) == least]
        self.assertEqual(trouble(web), least)
        self.assertEqual(best_camp_count(web), len(best))
        for at in {0, 1, len(best) // 2, len(best) - 1} & set(range(len(best))):
            self.assertEqual(nth_best_camp(web, at), best[at])
        for at in (len(best), len(best) + 1, 10**89):
            self.assertIsNone(nth_best_camp(web, at))
        for lot in lots[::len(lots) // 8 or 1] + lots[-1:]:
            self.assertEqual(wrong_ties(web, lot), wrong[lot])
        self.assertEqual(least_cures(web), sorted({wrong[lot] for lot in best}))
        for tie in pairs_tied(web)[::4]:
            for sign in (1, -1):
                least = min(len(ties) for ties in wrong.values() if (tie in ties) == (sign == -1))
                self.assertEqual(least_bearing(web, tie, sign), least)

    def test_of_small_webs(self):
        for web in small_webs():
            self.check(web)

    def test_of_greater_webs(self):
        for web in list(drawn_webs(201)) + two_webs():
            self.check(web)

    def test_each_best_camp_and_wrong_ties_of_each_lot(self):
        for web in list(small_webs(3)) + list(drawn_webs(202, 4, 4, 6)):
            lots = lots_of(len(web))
            best = [lot for lot in lots if len(wrong_anew(web, lot)) == trouble_anew(web)]
            self.assertEqual([nth_best_camp(web, at) for at in range(len(best) + 1)], best + [None])
            self.assertEqual([wrong_ties(web, lot) for lot in lots], [wrong_anew(web, lot) for lot in lots])

    def test_least_bearing_of_each_tie(self):
        for web in list(small_webs())[::3] + list(drawn_webs(203, 4, 5, 6)):
            for tie in pairs_tied(web):
                for sign in (1, -1):
                    told = min(len(foes_anew(one)) for one in (turned_anew(web, lot) for lot in lots_of(len(web)))
                               if one[tie[0]][tie[1]] == sign)
                    self.assertEqual(least_bearing(web, tie, sign), told)

    def test_cures_from_all_sets_of_ties(self):
        webs = list(small_webs()) + list(drawn_webs(204, 3, 5, 5)) + [circle_web(6, True), circle_web(6, False)]
        for web in webs:
            if len(pairs_tied(web)) > 7:
                continue
            cures = [some for some in sets_of(pairs_tied(web)) if balanced_anew(without_anew(web, some))]
            for some in sets_of(pairs_tied(web)):
                self.assertIs(is_cure(web, some), some in cures)
            least = len(cures[0])
            self.assertEqual(trouble(web), least)
            self.assertEqual(least_cures(web), sorted(some for some in cures if len(some) == least))

    def test_the_empty_set_is_a_cure_of_balanced_webs_alone(self):
        for web in list(drawn_webs(205)) + two_webs():
            self.assertIs(is_cure(web, ()), bool(camps_anew(web)))
            self.assertIs(least_cures(web) == [()], bool(camps_anew(web)))
            self.assertTrue(is_cure(web, tuple(pairs_tied(web))))

    def test_known_numbers(self):
        # Of places all tied by foes the best camps are the halves.
        for many, least, camps in ((2, 0, 2), (3, 1, 6), (4, 2, 6), (5, 4, 20), (6, 6, 20), (9, 16, 252),
                                   (10, 20, 252)):
            web = full_web(many, -1)
            self.assertEqual((trouble(web), best_camp_count(web)), (least, camps))
        self.assertEqual([trouble(circle_web(10, True)), best_camp_count(circle_web(10, True))], [1, 20])
        self.assertEqual([least_cures(empty_web(10)), best_camp_count(empty_web(10))], [[()], 1024])
        self.assertEqual([nth_best_camp(empty_web(10), at) for at in (0, 1, 11, 1023, 1024)],
                         [(), (0,), (0, 1), tuple(range(10)), None])
        self.assertEqual(len(least_cures(full_web(10, -1))), 126)

    def test_lists_are_new(self):
        web = full_web(4, -1)
        least_cures(web).clear()
        most_apart(web).clear()
        self.assertEqual([len(least_cures(web)), len(most_apart(web))], [3, 1])


class Apart(unittest.TestCase):
    def check(self, web, many):
        told = most_apart(web)
        bad = bad_anew(web)
        self.assertIsInstance(told, list)
        self.assertTrue(all(exactly(ring, bad) for ring in told))
        inside = [tie for ring in told for tie in ties_anew(ring)]
        self.assertEqual(len(set(inside)), len(inside))
        self.assertEqual(len(told), many)
        self.assertIs(is_apart(web, told), True)
        self.assertIs(is_apart(web, told[::-1]), True)
        self.assertIs(is_apart(web, tuple(told)), False)
        if told:
            self.assertIs(is_apart(web, told + told[:1]), False)

    def test_most_apart(self):
        for web in list(small_webs()) + list(drawn_webs(211, 3, 5, 6)) + list(drawn_webs(212, 4, 5, 5)):
            self.check(web, apart_anew(bad_anew(web)))
        self.check(full_web(5, -1), apart_anew(bad_anew(full_web(5, -1))))

    def test_six_places_all_tied(self):
        draw = Draw(213)
        for web in (full_web(6, -1), draw.resigned(full_web(6, 1)), changed(full_web(6, 1), (2, 3))):
            self.check(web, apart_anew(bad_anew(web)))
        self.check(full_web(6, 1), 0)
        self.check(empty_web(6), 0)

    def test_too_many(self):
        for many in (7, 8, 9, 10):
            for web in (empty_web(many), circle_web(many, True), full_web(many, -1)):
                with self.assertRaises(TooMany) as caught:
                    most_apart(web)
                self.assertEqual(caught.exception.count, 6)

    def test_all_lists_of_rounds(self):
        for web in list(small_webs(3)) + list(small_webs())[-300::7]:
            several, bad = rounds_anew(web), bad_anew(web)
            for some in sets_of(several):
                inside = [tie for ring in some for tie in ties_anew(ring)]
                good = set(some) <= set(bad) and len(set(inside)) == len(inside)
                self.assertIs(is_apart(web, list(some)), good)
                self.assertIs(is_apart(web, list(some)[::-1]), good)

    def test_any_value(self):
        parts = {(0, 1): -1, (0, 2): 1, (1, 2): 1, (2, 3): -1, (2, 4): 1, (3, 4): 1, (1, 3): 1}
        for web, most in ((web_of(5, parts), 2), (full_web(4, -1), 1), (full_web(3, 1), 0)):
            bad = bad_anew(web)
            lists = [[], *([ring] for ring in bad)]
            lists += [[one, more] for one in bad for more in bad if not set(ties_anew(one)) & set(ties_anew(more))]
            for value in many_values() + [value for one in lists[-4:] for value in spoilt(one)]:
                kept = repr(value)
                self.assertIs(is_apart(web, value), exactly(value, lists), value)
                self.assertEqual(repr(value), kept)
            self.assertEqual(len(lists[-1]), most)

    def test_ten_places(self):
        web = full_web(10, -1)
        triangles = [(0, 1, 2), (3, 4, 5), (6, 7, 8), (0, 3, 6), (1, 4, 7), (2, 5, 8)]
        self.assertTrue(is_apart(web, triangles))
        self.assertFalse(is_apart(web, triangles + [(0, 1, 9)]))
        self.assertTrue(is_apart(circle_web(9, True), [tuple(range(9))]))
        self.assertFalse(is_apart(circle_web(10, False), [tuple(range(10))]))
        self.assertTrue(is_apart(empty_web(10), []))
        self.assertFalse(is_apart(web, [(0, 1, 2)] * 700))


class Facts(unittest.TestCase):
    def webs(self, seed, least=5, most=10):
        return list(small_webs()) + list(drawn_webs(seed, 4, least, most)) + two_webs()

    def test_e1_wrong_ties_and_cures(self):
        draw = Draw(221)
        for web in self.webs(221):
            cures = least_cures(web)
            self.assertEqual({len(some) for some in cures}, {trouble(web)})
            self.assertEqual(best_camp_count(web), len(cures) * 2 ** len(pieces_anew(web)))
            lots = [draw.lot(len(web)) for _ in range(4)]
            for lot in lots:
                self.assertTrue(is_cure(web, wrong_ties(web, lot)))
                other = turned(web, lot)
                self.assertEqual([trouble(other), least_cures(other)], [trouble(web), cures])
            for some in cures[:5]:
                self.assertTrue(is_cure(web, some))
                self.assertTrue(is_balanced(with_other_signs(web, some)))

    def test_e1_ties_changed(self):
        for web in small_webs():
            changes = [some for some in sets_of(pairs_tied(web)) if camps_anew(with_other_signs(web, some))]
            self.assertEqual(trouble(web), len(changes[0]))

    def test_e2_as_few_foes_as_the_trouble(self):
        for web in self.webs(222, 5, 8):
            few = all(sum(across_anew(web, lot)) >= 0 for lot in lots_of(len(web)))
            self.assertIs(len(foes_anew(web)) == trouble(web), few)

    def test_e3_surpluses(self):
        for web in list(small_webs()) + list(drawn_webs(223, 4, 5, 9)) + [full_web(7, -1), empty_web(6)]:
            many, ties = len(web), len(pairs_tied(web))
            surpluses = [ties - 2 * len(wrong_ties(web, lot)) for lot in lots_of(many)]
            threes = [sign_anew(web, ring) for ring in combinations(range(many), 3)
                      if web[ring[0]][ring[1]] and web[ring[0]][ring[2]] and web[ring[1]][ring[2]]]
            self.assertEqual(sum(surpluses), 0)
            self.assertEqual(sum(one * one for one in surpluses), 2**many * ties)
            self.assertEqual(sum(one**3 for one in surpluses), 6 * 2**many * sum(threes))

    def test_e4_bounds(self):
        for web in self.webs(224):
            if len(web) <= 6:
                self.assertLessEqual(len(most_apart(web)), trouble(web))
            bound = 2 * len(pairs_tied(web)) - len(web) + len(pieces_anew(web))
            self.assertLessEqual(4 * trouble(web), bound)
        self.assertEqual([trouble(full_web(4, -1)), len(most_apart(full_web(4, -1)))], [2, 1])

    def test_e5_ties_of_cures(self):
        for web in list(small_webs())[::2] + list(drawn_webs(225, 4, 5, 7)) + [full_web(6, -1), circle_web(10, True)]:
            least, cures = trouble(web), least_cures(web)
            for tie in pairs_tied(web):
                friend, foe = least_bearing(web, tie, 1), least_bearing(web, tie, -1)
                self.assertEqual(min(friend, foe), least)
                in_some = any(tie in some for some in cures)
                self.assertIs(in_some, foe == least)
                self.assertEqual(trouble(less_tie(web, tie)), least - in_some)
                self.assertIs(all(tie in some for some in cures), friend > least)
                self.assertLessEqual(abs(trouble(changed(web, tie)) - least), 1)


if __name__ == "__main__":
    unittest.main()
