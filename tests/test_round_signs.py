import unittest
from itertools import combinations, product

from signrounds.errors import NotTheta, TooMany
from signrounds.round_signs import (
    clash, class_with, count_with, is_clash, is_sum_row, is_theta, own_rounds, ring_sum, round_signs, sum_row,
    web_by_own, web_by_signs,
)
from tests.calls import many_values
from tests.counts import (
    exactly, form_anew, forest_anew, number_anew, odd_ties, outer_anew, pieces_anew, rounds_anew, sign_anew,
    thetas_anew, ties_anew,
)
from tests.samples import (
    Draw, all_ties_webs, circle_web, drawn_webs, empty_web, full_web, pairs_tied, signings, small_webs, spoilt,
)


def signs_anew(web):
    return tuple(sign_anew(web, ring) for ring in rounds_anew(web))


def forms_on(web):
    """The forms of all classes on the ties of the web, by their numbers."""
    forest = forest_anew(web)
    forms = [one for one in signings(web) if all(one[x][y] == 1 for x, y in forest)]
    return sorted(forms, key=lambda one: [one[x][y] == -1 for x, y in outer_anew(web)])


class AllSigns(unittest.TestCase):
    def odd_theta(self, web, rings, signs):
        """That these three are a theta an odd number of which is to bear -1."""
        self.assertIsInstance(rings, tuple)
        self.assertIs(is_theta(web, rings), True)
        told = dict(zip(rounds_anew(web), signs))
        self.assertEqual(sum(told[ring] == -1 for ring in rings) % 2, 1)

    def test_round_signs(self):
        for web in list(small_webs()) + list(drawn_webs(61, 4, 5, 7)):
            self.assertEqual(round_signs(web), signs_anew(web))
        self.assertEqual(round_signs(empty_web(7)), ())

    def test_c4_all_rows_of_signs(self):
        for calm in all_ties_webs(4):
            forms = {signs_anew(one): one for one in forms_on(calm)}
            for signs in product((1, -1), repeat=len(rounds_anew(calm))):
                if signs in forms:
                    self.assertEqual(web_by_signs(calm, signs), forms[signs])
                else:
                    with self.assertRaises(NotTheta) as caught:
                        web_by_signs(calm, signs)
                    self.odd_theta(calm, caught.exception.rings, signs)

    def test_c4_each_theta(self):
        for calm in all_ties_webs(4):
            rings, thetas = rounds_anew(calm), thetas_anew(calm)
            good = {signs_anew(one) for one in signings(calm)}
            for signs in product((1, -1), repeat=len(rings)):
                told = dict(zip(rings, signs))
                even = all(sum(told[ring] == -1 for ring in three) % 2 == 0 for three in thetas)
                self.assertIs(even, signs in good)

    def test_the_signs_of_the_web_do_not_count(self):
        draw = Draw(62)
        for web in drawn_webs(62, 4, 3, 6):
            other = draw.resigned(web)
            self.assertEqual(web_by_signs(web, signs_anew(other)), form_anew(other))

    def test_greater_webs(self):
        draw = Draw(63)
        for web in list(drawn_webs(63, 4, 5, 6)) + [full_web(5, 1), full_web(6, -1)]:
            good = signs_anew(web)
            self.assertEqual(web_by_signs(web, good), form_anew(web))
            thetas = thetas_anew(web) if len(web) < 6 else set()
            for at in [draw.below(len(good)) for _ in good[:3]]:
                signs = good[:at] + (-good[at],) + good[at + 1:]
                if any(rounds_anew(web)[at] in three for three in thetas):
                    with self.assertRaises(NotTheta):
                        web_by_signs(web, signs)
                self.shown(web, signs)
            self.shown(web, tuple(draw.one((1, -1)) for _ in good))

    def shown(self, web, signs):
        try:
            self.assertEqual(signs_anew(web_by_signs(web, signs)), signs)
        except NotTheta as error:
            self.odd_theta(web, error.rings, signs)

    def test_seven_and_eight_places(self):
        web = full_web(7, -1)
        signs = round_signs(web)
        self.assertEqual(len(signs), 1172)
        self.assertEqual(signs, signs_anew(web))
        self.assertEqual(web_by_signs(web, signs), form_anew(web))
        for at in (0, 40, 700, 1171):
            self.shown(web, signs[:at] + (-signs[at],) + signs[at + 1:])
        self.shown(web, tuple(-sign for sign in signs))
        for great in (circle_web(8, True), empty_web(10), full_web(9, 1)):
            for function, values in ((round_signs, ()), (web_by_signs, ((1,),)), (web_by_signs, (None,)),
                                     (web_by_signs, ((),))):
                with self.assertRaises(TooMany) as caught:
                    function(great, *values)
                self.assertEqual(caught.exception.count, 7)

    def test_no_rounds(self):
        for web in (empty_web(1), empty_web(7), full_web(2, -1)):
            self.assertEqual(web_by_signs(web, ()), tuple(tuple(map(abs, row)) for row in web))
            self.assertEqual([round_signs(web), own_rounds(web)], [(), []])


class Thetas(unittest.TestCase):
    def test_all_threes_of_rounds(self):
        for calm in all_ties_webs(4):
            thetas = thetas_anew(calm)
            for three in product(rounds_anew(calm), repeat=3):
                self.assertIs(is_theta(calm, three), three in thetas)

    def test_threes_of_greater_webs(self):
        for web in list(drawn_webs(64, 4, 5, 5)) + [full_web(5, 1)]:
            thetas = thetas_anew(web)
            for three in combinations(sorted(rounds_anew(web)), 3):
                self.assertIs(is_theta(web, three), three in thetas)

    def test_any_value(self):
        for web in (full_web(4, -1), circle_web(5, True), full_web(5, 1)):
            thetas = thetas_anew(web)
            some = sorted(thetas)[:3]
            for value in many_values() + [value for three in some for value in spoilt(three)]:
                kept = repr(value)
                self.assertIs(is_theta(web, value), exactly(value, thetas), value)
                self.assertEqual(repr(value), kept)

    def test_ten_places(self):
        web = full_web(10, 1)
        self.assertTrue(is_theta(web, ((0, 1, 2), (0, 1, 3, 4, 5, 6, 7, 8, 9), (0, 2, 1, 3, 4, 5, 6, 7, 8, 9))))
        self.assertFalse(is_theta(web, ((0, 1, 2), (0, 2, 1, 3, 4, 5, 6, 7, 8, 9), (0, 1, 3, 4, 5, 6, 7, 8, 9))))

    def test_three_rounds_that_add_up_are_no_theta_if_they_meet_twice(self):
        self.assertFalse(is_theta(full_web(4, 1), ((0, 1, 2, 3), (0, 1, 3, 2), (0, 2, 1, 3))))


class OwnRounds(unittest.TestCase):
    def test_own_rounds(self):
        for web in list(small_webs()) + list(drawn_webs(65, 4, 5, 7)):
            forest, told = forest_anew(web), []
            for tie in outer_anew(web):
                told += [ring for ring in rounds_anew(web) if set(ties_anew(ring)) <= {*forest, tie}]
            self.assertEqual(own_rounds(web), told)

    def test_c5_how_many(self):
        for web in list(small_webs()) + list(drawn_webs(66)):
            many = len(pairs_tied(web)) - len(web) + len(pieces_anew(web))
            self.assertEqual(len(own_rounds(web)), many)

    def test_web_by_own(self):
        for calm in list(all_ties_webs(4)) + [full_web(5, 1), circle_web(6, False)]:
            outer = outer_anew(calm)
            own = own_rounds(calm)
            found = set()
            for signs in product((1, -1), repeat=len(outer)):
                told = web_by_own(calm, signs)
                self.assertEqual(pairs_tied(told), pairs_tied(calm))
                self.assertEqual(tuple(sign_anew(told, ring) for ring in own), signs)
                self.assertTrue(all(told[x][y] == 1 for x, y in forest_anew(calm)))
                found.add(told)
            self.assertEqual(found, set(forms_on(calm)))

    def test_web_by_own_of_ten_places(self):
        draw = Draw(67)
        for web in list(drawn_webs(67, 4, 8, 10)) + [empty_web(10), full_web(10, -1)]:
            own = own_rounds(web)
            signs = tuple(draw.one((1, -1)) for _ in own)
            told = web_by_own(web, signs)
            self.assertEqual(tuple(sign_anew(told, ring) for ring in own), signs)
            self.assertEqual(web_by_own(web, tuple(sign_anew(web, ring) for ring in own)), form_anew(web))

    def test_ring_sum(self):
        for web in list(small_webs())[::5] + list(drawn_webs(68, 4, 5, 6)) + [full_web(5, -1)]:
            own, outer = own_rounds(web), outer_anew(web)
            for ring in rounds_anew(web):
                told = ring_sum(web, ring)
                self.assertEqual(told, [one for one, tie in zip(own, outer) if tie in ties_anew(ring)])
                self.assertEqual(odd_ties(told), set(ties_anew(ring)))
                sign = 1
                for one in told:
                    sign *= sign_anew(web, one)
                self.assertEqual(sign, sign_anew(web, ring))


class SomeSigns(unittest.TestCase):
    """Rounds and signs told, settled by all classes and all sets of indexes."""

    def told_cases(self, seed, many):
        draw = Draw(seed)
        webs = [full_web(4, 1), full_web(5, -1), circle_web(4, True), *drawn_webs(seed, 3, 4, 5)]
        webs += [one for one in all_ties_webs(4) if len(rounds_anew(one)) > 1]
        for web in webs:
            several = rounds_anew(web)
            for size in range(many) if several else (0,):
                rings = tuple(draw.one(several) for _ in range(size))
                signs = tuple(draw.one((1, -1)) for _ in range(size))
                yield web, rings, signs
                other = draw.resigned(web)
                yield web, rings, tuple(sign_anew(other, ring) for ring in rings)

    def indexes_of(self, size):
        return [row for many in range(size + 1) for row in combinations(range(size), many)]

    def test_count_class_and_clash(self):
        for web, rings, signs in self.told_cases(69, 7):
            fits = [one for one in forms_on(web) if all(sign_anew(one, r) == s for r, s in zip(rings, signs))]
            self.assertEqual(count_with(web, rings, signs), len(fits))
            self.assertEqual(class_with(web, rings, signs), fits[0] if fits else None)
            if fits:
                self.assertEqual(number_anew(fits[0]), min(number_anew(one) for one in fits))
            clashes = [row for row in self.indexes_of(len(rings)) if not odd_ties(rings[at] for at in row)
                       and sum(signs[at] == -1 for at in row) % 2]
            told = clash(web, rings, signs)
            self.assertIs(told is None, not clashes)
            self.assertEqual(bool(fits), not clashes)
            if clashes:
                self.assertTrue(exactly(told, clashes))
            for row in self.indexes_of(len(rings)):
                self.assertIs(is_clash(web, rings, signs, row), row in clashes)

    def test_sum_row(self):
        draw = Draw(70)
        for web, rings, _ in self.told_cases(70, 6):
            for ring in rounds_anew(web)[:4] + [draw.one(rounds_anew(web)) for _ in rings[:2]]:
                rows = [row for row in self.indexes_of(len(rings))
                        if odd_ties(rings[at] for at in row) == set(ties_anew(ring))]
                told = sum_row(web, rings, ring)
                self.assertIs(told is None, not rows)
                if rows:
                    self.assertTrue(exactly(told, rows))
                for row in self.indexes_of(len(rings)):
                    self.assertIs(is_sum_row(web, rings, ring, row), row in rows)

    def test_any_value(self):
        web, rings = full_web(4, 1), ((0, 1, 2), (0, 1, 3), (0, 1, 2), (0, 2, 1, 3), (0, 1, 3))
        ring, signs = (0, 2, 1, 3), (1, -1, -1, 1, 1)
        sums = [row for row in self.indexes_of(5) if odd_ties(rings[at] for at in row) == set(ties_anew(ring))]
        clashes = [row for row in self.indexes_of(5) if not odd_ties(rings[at] for at in row)
                   and sum(signs[at] == -1 for at in row) % 2]
        self.assertTrue(len(sums) > 2 and len(clashes) > 2)
        values = many_values() + [value for row in sums + clashes for value in spoilt(row)]
        for value in values:
            kept = repr(value)
            self.assertIs(is_sum_row(web, rings, ring, value), exactly(value, sums), value)
            self.assertIs(is_clash(web, rings, signs, value), exactly(value, clashes), value)
            self.assertEqual(repr(value), kept)

    def test_nothing_told(self):
        for web in (empty_web(1), empty_web(10), full_web(5, -1), full_web(10, 1)):
            outer = len(outer_anew(web))
            calm = tuple(tuple(map(abs, row)) for row in web)
            self.assertEqual(count_with(web, (), ()), 2 ** outer)
            self.assertEqual(class_with(web, (), ()), calm)
            self.assertIsNone(clash(web, (), ()))
            self.assertFalse(is_clash(web, (), (), ()))
        self.assertIsNone(sum_row(full_web(4, 1), (), (0, 1, 2)))
        self.assertFalse(is_sum_row(full_web(4, 1), (), (0, 1, 2), ()))

    def test_a_hundred_rounds(self):
        draw = Draw(71)
        for sign in (1, -1):
            web = full_web(10, sign)
            rings = tuple(own for own in own_rounds(web)) * 3
            rings = tuple(draw.one(rings) for _ in range(100))
            signs = tuple(sign_anew(web, ring) for ring in rings)
            kept = 36 - len(set(rings))
            self.assertEqual(count_with(web, rings, signs), 2 ** kept)
            found = class_with(web, rings, signs)
            self.assertTrue(all(sign_anew(found, ring) == one for ring, one in zip(rings, signs)))
            self.assertIsNone(clash(web, rings, signs))
            other = (-signs[0],) + signs[1:]
            self.assertEqual(count_with(web, rings, other) == 0, rings.count(rings[0]) > 1)
            told = sum_row(web, rings, rings[-1])
            self.assertTrue(is_sum_row(web, rings, rings[-1], told))

    def test_c6_few_rounds(self):
        for web, rings, signs in self.told_cases(72, 6):
            fits = [one for one in forms_on(web) if all(sign_anew(one, r) == s for r, s in zip(rings, signs))]
            if not fits:
                continue
            apart = [row for row in self.indexes_of(len(rings))
                     if all(odd_ties(rings[at] for at in some) for size in range(1, len(row) + 1)
                            for some in combinations(row, size))]
            greatest = max(len(row) for row in apart)
            outer = len(pairs_tied(web)) - len(web) + len(pieces_anew(web))
            self.assertEqual(count_with(web, rings, signs), 2 ** (outer - greatest))
            for ring in rounds_anew(web):
                row = sum_row(web, rings, ring)
                borne = {sign_anew(one, ring) for one in fits}
                self.assertIs(len(borne) == 1, row is not None)
                if row is not None:
                    sign = 1
                    for at in row:
                        sign *= signs[at]
                    self.assertEqual(borne, {sign})


if __name__ == "__main__":
    unittest.main()
