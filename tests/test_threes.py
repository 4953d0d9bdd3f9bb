import unittest
from itertools import combinations, permutations

from signrounds.errors import InvalidCount, InvalidRow, NotAllTied, NotEven, TooMany
from signrounds.threes import (
    bad_at_ties, bad_threes, even_count, is_even, is_steady, keeping_rows, lot_for_row, nth_threes, odd_four, seen_from,
    threes_number, web_of_threes,
)
from signrounds.webs import opposite
from tests.calls import many_values
from tests.counts import class_anew, exactly, renamed_anew, sign_anew, turned_anew
from tests.samples import (
    Draw, circle_web, drawn_webs, empty_web, full_web, lots_of, pairs_tied, signings, spoilt, web_of,
)

# Six places, of which each two are together in two bad threes; four and five places likewise.
STEADY = web_of(6, {pair: 1 for pair in combinations(range(6), 2)} | {
    (1, 3): -1, (1, 4): -1, (2, 4): -1, (2, 5): -1, (3, 5): -1})


def bad_anew(web):
    return tuple(three for three in combinations(range(len(web)), 3) if sign_anew(web, three) == -1)


def even_anew(many, threes):
    return all(sum(set(three) <= set(four) for three in threes) % 2 == 0 for four in combinations(range(many), 4))


def some_webs(seed, least=5, most=10):
    """All webs of one to four places all of which are tied, and greater ones."""
    draw = Draw(seed)
    told = [web for many in (1, 2, 3, 4) for web in signings(full_web(many, 1))]
    for many in range(least, most + 1):
        calm = full_web(many, 1)
        told += [calm, full_web(many, -1), draw.resigned(calm), draw.resigned(calm)]
    return told + ([STEADY] if most > 5 else [])


def all_sets(many):
    threes = list(combinations(range(many), 3))
    for figures in range(2 ** len(threes)):
        yield tuple(three for at, three in enumerate(threes) if figures >> at & 1)


class Webs(unittest.TestCase):
    def test_bad_threes(self):
        for web in some_webs(701):
            self.assertEqual(bad_threes(web), bad_anew(web))
        self.assertEqual([bad_threes(empty_web(1)), bad_threes(full_web(2, -1))], [(), ()])
        self.assertEqual(bad_threes(full_web(10, -1)), tuple(combinations(range(10), 3)))

    def test_bad_at_ties_and_steady(self):
        for web in some_webs(702):
            counts = tuple(sum(x in three and y in three for three in bad_anew(web)) for x, y in pairs_tied(web))
            self.assertEqual(bad_at_ties(web), counts)
            self.assertIs(is_steady(web), len(set(counts)) < 2)
        self.assertEqual([bad_at_ties(STEADY), is_steady(STEADY)], [(2,) * 15, True])
        for web in (empty_web(1), full_web(2, 1), full_web(2, -1)):
            self.assertIs(is_steady(web), True)
        self.assertEqual([bad_at_ties(empty_web(1)), bad_at_ties(full_web(2, -1))], [(), (0,)])

    def test_seen_from(self):
        for web in some_webs(703):
            for place in range(len(web)):
                told = seen_from(web, place)
                self.assertEqual(sum(told[place]), len(web) - 1)
                lots = (tuple(other for other in range(len(web)) if web[place][other] == -1),)
                if len(web) < 6:
                    lots = lots_of(len(web))
                self.assertIn(told, [turned_anew(web, lot) for lot in lots])

    def test_not_all_tied(self):
        draw = Draw(704)
        webs = [empty_web(2), empty_web(10), circle_web(4, True), circle_web(10, False)]
        webs += [web for web in drawn_webs(704, 3, 2, 10)]
        for many in range(3, 11):
            pairs = list(combinations(range(many), 2))
            for gap in (pairs[0], pairs[-1], draw.one(pairs)):
                webs.append(web_of(many, {pair: 1 for pair in pairs if pair != gap}))
        for web in webs:
            gaps = [pair for pair in combinations(range(len(web)), 2) if pair not in pairs_tied(web)]
            if not gaps:
                continue
            row = tuple(range(len(web)))
            for function, values in ((bad_threes, ()), (seen_from, (0,)), (bad_at_ties, ()), (is_steady, ()),
                                     (lot_for_row, (row,)), (keeping_rows, ())):
                with self.assertRaises(NotAllTied) as caught:
                    function(web, *values)
                self.assertEqual(caught.exception.tie, gaps[0])
            with self.assertRaises(InvalidRow):
                lot_for_row(web, row + (0,))


class Sets(unittest.TestCase):
    def test_all_sets_of_up_to_five_places(self):
        for many in (1, 2, 3, 4, 5):
            even = []
            for threes in all_sets(many):
                fours = [four for four in combinations(range(many), 4)
                         if sum(set(three) <= set(four) for three in threes) % 2]
                self.assertIs(is_even(many, threes), not fours)
                self.assertEqual(odd_four(many, threes), fours[0] if fours else None)
                if not fours:
                    even.append(threes)
                    web = web_of_threes(many, threes)
                    self.assertTrue(all(sign != 0 for x, row in enumerate(web) for y, sign in enumerate(row) if x != y))
                    self.assertEqual([bad_anew(web), sum(web[0])], [threes, many - 1])
                else:
                    for function in (web_of_threes, threes_number):
                        with self.assertRaises(NotEven) as caught:
                            function(many, threes)
                        self.assertEqual(caught.exception.four, fours[0])
            self.assertEqual(even_count(many), len(even))
            pairs = list(combinations(range(1, many), 2))
            even.sort(key=lambda threes: [(0,) + pair in threes for pair in pairs])
            self.assertEqual([nth_threes(many, at) for at in range(len(even) + 2)], even + [None, None])
            self.assertEqual([threes_number(many, threes) for threes in even], list(range(len(even))))

    def test_sets_of_more_places(self):
        draw = Draw(711)
        for many in range(6, 11):
            for _ in range(4):
                web = draw.resigned(full_web(many, 1))
                even = bad_anew(web)
                self.assertIs(is_even(many, even), True)
                self.assertIsNone(odd_four(many, even))
                self.assertEqual(bad_anew(web_of_threes(many, even)), even)
                figures = "".join("1" if (0, x, y) in even else "0" for x, y in combinations(range(1, many), 2))
                self.assertEqual(threes_number(many, even), int(figures, 2))
                self.assertEqual(nth_threes(many, int(figures, 2)), even)
                less = even[1:] if even else ((0, 1, 2),)
                four = next(four for four in combinations(range(many), 4)
                            if sum(set(three) <= set(four) for three in less) % 2)
                self.assertEqual(odd_four(many, less), four)
                self.assertIs(is_even(many, less), False)

    def test_last_number_and_the_one_behind_it(self):
        for many in range(1, 11):
            total = 2 ** ((many - 1) * (many - 2) // 2)
            self.assertEqual(even_count(many), total)
            last = nth_threes(many, total - 1)
            self.assertLessEqual({(0, x, y) for x, y in combinations(range(1, many), 2)}, set(last))
            self.assertTrue(even_anew(many, last))
            self.assertEqual(threes_number(many, last), total - 1)
            self.assertEqual(nth_threes(many, 0), ())
            for number in (total, total + 1, 10**89):
                self.assertIsNone(nth_threes(many, number))

    def test_is_even_of_any_value(self):
        four = ((0, 1, 2), (0, 1, 3), (0, 2, 3), (1, 2, 3))
        for many, some in ((3, ((0, 1, 2),)), (4, four), (4, four[1:3]), (5, bad_anew(full_web(5, -1))), (10, ())):
            even = [threes for threes in all_sets(many) if even_anew(many, threes)] if many < 6 else [()]
            self.assertIn(some, even)
            for value in many_values() + list(spoilt(some)):
                kept = repr(value)
                self.assertIs(is_even(many, value), exactly(value, even), value)
                self.assertEqual(repr(value), kept)

    def test_all_and_none(self):
        for many in range(1, 11):
            whole = tuple(combinations(range(many), 3))
            self.assertIs(is_even(many, whole), True)
            self.assertIs(is_even(many, ()), True)
            self.assertIs(is_even(many, list(whole)), False)
            self.assertEqual(web_of_threes(many, ()), full_web(many, 1))
        self.assertIs(is_even(3, ((0, 1, 3),)), False)

    def test_wrong_many(self):
        for many in (0, -1, 11, 10**89, True, None, "3", (3,), [3]):
            for function, values in ((is_even, ((),)), (odd_four, (None,)), (web_of_threes, (None,)), (even_count, ()),
                                     (threes_number, (None,)), (nth_threes, (None,))):
                with self.assertRaises(InvalidCount):
                    function(many, *values)


class Rows(unittest.TestCase):
    def lot_anew(self, web, row):
        """The lot without 0 that leads to the renamed web, from all lots."""
        other = renamed_anew(web, row)
        found = [lot for lot in lots_of(len(web)) if 0 not in lot and turned_anew(web, lot) == other]
        return found[0] if found else None

    def test_of_few_places(self):
        for web in some_webs(721, 5, 5):
            rows = list(permutations(range(len(web))))
            for row in rows:
                self.assertEqual(lot_for_row(web, row), self.lot_anew(web, row))
            self.assertEqual(keeping_rows(web), [row for row in rows if self.lot_anew(web, row) is not None])

    def test_of_six_places(self):
        draw = Draw(722)
        for web in (STEADY, full_web(6, -1), draw.resigned(full_web(6, 1))):
            told = keeping_rows(web)
            self.assertEqual(told, [row for row in permutations(range(6))
                                    if bad_anew(renamed_anew(web, row)) == bad_anew(web)])
            for row in told[::9]:
                self.assertEqual(lot_for_row(web, row), self.lot_anew(web, row))

    def test_of_ten_places(self):
        draw = Draw(723)
        for web in (full_web(10, -1), full_web(10, 1), turned_anew(full_web(10, -1), (0, 4, 9)),
                    draw.resigned(full_web(10, 1)), seen_from(draw.resigned(full_web(9, 1)), 3)):
            for row in (tuple(range(len(web))), draw.row(len(web)), draw.row(len(web))):
                self.assertEqual(lot_for_row(web, row), self.lot_anew(web, row))

    def test_edges(self):
        self.assertEqual([lot_for_row(empty_web(1), (0,)), keeping_rows(empty_web(1))], [(), [(0,)]])
        self.assertEqual(keeping_rows(full_web(2, -1)), [(0, 1), (1, 0)])
        self.assertEqual(lot_for_row(full_web(10, -1), tuple(range(9, -1, -1))), ())
        self.assertEqual(len(keeping_rows(full_web(6, -1))), 720)
        keeping_rows(STEADY).clear()
        self.assertEqual(len(keeping_rows(STEADY)), 60)

    def test_too_many(self):
        for many in (7, 8, 9, 10):
            with self.assertRaises(TooMany) as caught:
                keeping_rows(full_web(many, -1))
            self.assertEqual(caught.exception.count, 6)
            with self.assertRaises(NotAllTied):
                keeping_rows(circle_web(many, True))


class Facts(unittest.TestCase):
    def test_i1_alike_exactly_if_the_same_bad_threes(self):
        for many in (3, 4):
            webs = list(signings(full_web(many, 1)))
            for web in webs:
                likes = class_anew(web)
                self.assertTrue(all((bad_threes(other) == bad_threes(web)) == (other in likes) for other in webs))
        for web in some_webs(731, 5, 5):
            likes = class_anew(web)
            self.assertEqual({bad_threes(other) for other in likes}, {bad_threes(web)})

    def test_i1_even_sets(self):
        for many in (4, 5):
            sets = {bad_threes(web) for web in signings(full_web(many, 1))}
            self.assertEqual(sets, {threes for threes in all_sets(many) if is_even(many, threes)})

    def test_i2_told_by_one_place(self):
        for web in some_webs(732):
            bad = set(bad_threes(web))
            for place in range(len(web)):
                for three in combinations([one for one in range(len(web)) if one != place], 3):
                    with_place = [tuple(sorted([place, *pair])) in bad for pair in combinations(three, 2)]
                    self.assertIs(three in bad, sum(with_place) % 2 == 1)

    def test_i3_numbers(self):
        draw = Draw(733)
        for many in range(1, 11):
            for number in [draw.below(even_count(many)) for _ in range(5)] + [even_count(many) - 1]:
                self.assertEqual(threes_number(many, nth_threes(many, number)), number)

    def test_i4_all_signs_exchanged(self):
        draw = Draw(734)
        for web in some_webs(734):
            others = set(combinations(range(len(web)), 3)) - set(bad_threes(web))
            self.assertEqual(set(bad_threes(opposite(web))), others)
            more = draw.resigned(web)
            self.assertTrue(is_even(len(web), tuple(sorted(set(bad_threes(web)) ^ set(bad_threes(more))))))

    def test_i5_products(self):
        for web in some_webs(735):
            many = len(web)
            for (x, y), bad in zip(pairs_tied(web), bad_at_ties(web)):
                told = sum(web[x][z] * web[z][y] for z in range(many) if z not in (x, y))
                self.assertEqual(told, web[x][y] * (many - 2 - 2 * bad))

    def test_i6_steady(self):
        steady = 0
        for web in some_webs(736) + list(signings(full_web(5, 1)))[::3]:
            if len(web) < 2:
                continue
            foes = set()
            for place in range(len(web)):
                told = seen_from(web, place)
                foes |= {row.count(-1) for other, row in enumerate(told) if other != place}
            self.assertIs(is_steady(web), len(foes) == 1)
            if is_steady(web):
                self.assertEqual(foes, set(bad_at_ties(web)))
                if bad_at_ties(web)[0] not in (0, len(web) - 2):
                    steady += 1
                    self.assertEqual(len(web) % 2, 0)
        self.assertTrue(steady)

    def test_i7_rows_go_together(self):
        draw = Draw(737)
        for web in some_webs(737, 5, 6):
            rows = keeping_rows(web)
            for _ in range(20):
                one, other = draw.one(rows), draw.one(rows)
                self.assertIn(tuple(other[one[place]] for place in range(len(web))), rows)
                self.assertIn(tuple(one.index(place) for place in range(len(web))), rows)


if __name__ == "__main__":
    unittest.main()
