import unittest
from itertools import permutations

from signrounds.weights import free_weight, tie_table, tree_count, weight_sums
from signrounds.webs import beside, less_tie, turned
from tests.counts import (
    camps_anew, free_weight_anew, inner_anew, is_free_anew, pieces_by_ties, rounds_anew, sets_of, sign_anew,
    turned_anew, web_of_set,
)
from tests.samples import (
    Draw, circle_web, drawn_webs, empty_web, full_web, lots_of, pairs_tied, small_webs, web_of,
)


def some_webs(seed):
    """Webs of at most nine ties."""
    told = [web for web in drawn_webs(seed, 3, 5, 7) if len(pairs_tied(web)) <= 9]
    bow = web_of(5, {(0, 1): -1, (0, 2): 1, (1, 2): 1, (2, 3): 1, (2, 4): -1, (3, 4): 1})
    return told + [circle_web(6, True), circle_web(6, False), beside(circle_web(3, True), circle_web(4, True)), bow,
                   beside(circle_web(3, False), full_web(2, -1)), empty_web(1), empty_web(5)]


def great_webs():
    calm = turned_anew(full_web(10, 1), (1, 2, 5, 9))
    return [calm, full_web(10, -1), full_web(9, 1), circle_web(10, True), circle_web(10, False), empty_web(10),
            beside(full_web(5, -1), full_web(5, 1)), *drawn_webs(601, 4, 8, 10)]


def determinant_anew(rows):
    """The determinant by the first row."""
    if not rows:
        return 1
    told = 0
    for at, entry in enumerate(rows[0]):
        if entry:
            told += (-1) ** at * entry * determinant_anew([row[:at] + row[at + 1:] for row in rows[1:]])
    return told


def by_all_rows(rows):
    """The determinant as the sum over all rows of columns."""
    told = 0
    for row in permutations(range(len(rows))):
        worth = 1
        for at, column in enumerate(row):
            worth *= rows[at][column] * (-1 if sum(one > column for one in row[:at]) % 2 else 1)
        told += worth
    return told


def calm_pieces(web):
    return [piece for piece in pieces_by_ties(web) if camps_anew(inner_anew(web, piece))]


def ties_only(web):
    return tuple(tuple(abs(sign) for sign in row) for row in web)


class Weights(unittest.TestCase):
    def check(self, web, lots):
        for lot in lots:
            self.assertEqual(free_weight(web, lot), free_weight_anew(web, lot))
        self.assertEqual(free_weight(web), free_weight(web, ()))

    def test_of_small_webs(self):
        for web in small_webs():
            self.check(web, lots_of(len(web)))

    def test_of_greater_webs(self):
        for web in some_webs(602):
            self.check(web, lots_of(len(web))[::5] + [(), tuple(range(len(web)))])

    def test_sums(self):
        for web in list(small_webs()) + some_webs(603) + great_webs():
            sums = [0] * (len(web) + 1)
            for lot in lots_of(len(web)):
                sums[len(lot)] += free_weight(web, lot)
            self.assertEqual(weight_sums(web), sums)

    def test_tables(self):
        for web in list(small_webs()) + great_webs():
            table = tie_table(web)
            self.assertIsInstance(table, tuple)
            for x, row in enumerate(table):
                self.assertIsInstance(row, tuple)
                self.assertEqual(row, tuple(sum(map(abs, web[x])) if x == y else -web[x][y] for y in range(len(web))))

    def test_trees(self):
        for web in list(small_webs()) + some_webs(604):
            several = [some for some in sets_of(pairs_tied(web)) if len(some) == len(web) - 1]
            self.assertEqual(tree_count(web), sum(len(pieces_by_ties(web_of_set(web, some))) == 1 for some in several))

    def test_known_numbers(self):
        for many in range(1, 11):
            for sign in (1, -1):
                self.assertEqual(tree_count(full_web(many, sign)), many ** (many - 2) if many > 1 else 1)
            self.assertEqual(tree_count(empty_web(many)), int(many == 1))
            self.assertEqual(free_weight(full_web(many, 1)), 0)
            # The table of foes alone has the sum n - 2 taken many times, and 2 * n - 2 once.
            self.assertEqual(free_weight(full_web(many, -1)), (many - 2) ** (many - 1) * (2 * many - 2)
                             if many > 1 else 0)
        self.assertEqual([tree_count(circle_web(10, True)), free_weight(circle_web(10, True))], [10, 4])
        self.assertEqual(free_weight(circle_web(10, False)), 0)
        self.assertEqual([free_weight(empty_web(10)), free_weight(empty_web(10), tuple(range(10)))], [0, 1])
        self.assertEqual([free_weight(empty_web(1)), free_weight(empty_web(1), (0,)), weight_sums(empty_web(1))],
                         [0, 1, [0, 1]])
        self.assertEqual(weight_sums(empty_web(10)), [0] * 10 + [1])
        self.assertEqual(tie_table(empty_web(1)), ((0,),))

    def test_sums_are_new_at_each_call(self):
        weight_sums(full_web(3, -1)).clear()
        self.assertEqual(weight_sums(full_web(3, -1)), [4, 9, 6, 1])


class Facts(unittest.TestCase):
    def test_h1_determinant(self):
        for web in list(small_webs())[::2] + some_webs(611) + great_webs():
            table = tie_table(web)
            lots = lots_of(len(web))
            for lot in lots[::len(lots) // 12 or 1] + lots[-1:]:
                left = [place for place in range(len(web)) if place not in lot]
                rows = [[table[x][y] for y in left] for x in left]
                if len(rows) < 9:
                    self.assertEqual(free_weight(web, lot), determinant_anew(rows))
                if len(rows) < 6:
                    self.assertEqual(free_weight(web, lot), by_all_rows(rows))

    def test_h2_sets_that_fit_and_first_entries(self):
        for web in list(small_webs()) + some_webs(612):
            whole = [some for some in sets_of(pairs_tied(web)) if len(some) == len(web) and is_free_anew(web, some)]
            told = 0
            for some in whole:
                only = web_of_set(web, some)
                told += 4 ** len(pieces_by_ties(only))
                if len(web) < 6:
                    self.assertTrue(all(sign_anew(web, ring) == -1 for ring in rounds_anew(only)))
            self.assertEqual(free_weight(web), told)

    def test_h2_entries(self):
        for web in list(small_webs()) + some_webs(613) + great_webs():
            calm = len(calm_pieces(web))
            self.assertIs(free_weight(web) == 0, calm > 0)
            sums = weight_sums(web)
            self.assertEqual(len(sums), len(web) + 1)
            self.assertEqual([at for at, one in enumerate(sums) if one == 0], list(range(calm)))
            self.assertTrue(all(one > 0 for one in sums[calm:]))
            self.assertEqual([sums[-1], sums[-2]], [1, 2 * len(pairs_tied(web))])

    def test_h3_alike_and_trees(self):
        draw = Draw(614)
        for web in list(small_webs())[::2] + some_webs(614) + great_webs():
            other = turned(web, draw.lot(len(web)))
            self.assertEqual(weight_sums(other), weight_sums(web))
            self.assertEqual(tree_count(other), tree_count(web))
            lot = draw.lot(len(web))
            self.assertEqual(free_weight(other, lot), free_weight(web, lot))
            if len(calm_pieces(web)) == len(pieces_by_ties(web)) == 1:
                for place in range(len(web)):
                    self.assertEqual(free_weight(web, (place,)), tree_count(web))
            self.assertEqual(tree_count(web), free_weight(ties_only(web), (len(web) - 1,)))

    def test_h4_by_one_tie(self):
        draw = Draw(615)
        for web in list(small_webs())[::3] + some_webs(615) + great_webs():
            for x, y in pairs_tied(web)[:3] + pairs_tied(web)[-3:]:
                less = less_tie(web, (x, y))
                others = tuple(place for place in draw.lot(len(web)) if place not in (x, y))
                both = tuple(sorted(others + (x, y)))
                self.assertEqual(free_weight(web, both), free_weight(less, both))
                for one, kept in ((x, y), (y, x)):
                    lot = tuple(sorted(others + (kept,)))
                    told = free_weight(less, lot) + free_weight(web, both)
                    self.assertEqual(free_weight(web, lot), told)
                    self.assertEqual(free_weight(web, both), free_weight(less, tuple(sorted(lot + (one,)))))

    def test_h5_beside(self):
        draw = Draw(616)
        webs = [web for web in list(small_webs())[::60] + some_webs(616) if len(web) <= 5]
        for at, web in enumerate(webs):
            other = webs[at - 1]
            lot, more = draw.lot(len(web)), draw.lot(len(other))
            whole = lot + tuple(place + len(web) for place in more)
            self.assertEqual(free_weight(beside(web, other), whole), free_weight(web, lot) * free_weight(other, more))


if __name__ == "__main__":
    unittest.main()
