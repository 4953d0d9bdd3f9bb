import unittest
from itertools import combinations, product

from signrounds.camps import is_balanced
from signrounds.errors import InvalidPlace, InvalidSigns, InvalidTie, InvalidWeb, NotBalanced, TooMany
from signrounds.joining import (
    drawn, joined_all, joined_at, less_place, parted_tie, put_in, trimmed, with_place,
)
from signrounds.webs import bad_rings, is_web, ring_sign, ring_told, rings, turned
from signrounds.trouble import trouble
from tests.counts import (
    balanced_anew, calm_pieces_by_spreading, exactly, inner_anew, pieces_by_ties, rounds_anew, sign_anew, ties_anew,
    trouble_anew, turned_anew, web_of_set,
)
from tests.samples import (
    Draw, circle_web, drawn_webs, empty_web, full_web, lots_of, pairs_tied, small_webs, web_of,
)

ONE, FRIENDS, FOES = empty_web(1), full_web(2, 1), full_web(2, -1)
TRI = ((0, -1, 1), (-1, 0, 1), (1, 1, 0))


def signs_of(web):
    return {(x, y): web[x][y] for x, y in pairs_tied(web)}


def web_by_names(names, *told):
    """The web of these names, in their sequence, with the signs of pairs of names."""
    signs = {}
    for part in told:
        for (a, b), sign in part.items():
            x, y = sorted((names.index(a), names.index(b)))
            signs[(x, y)] = sign
    return web_of(len(names), signs)


def named(web, letter):
    return {((letter, x), (letter, y)): sign for (x, y), sign in signs_of(web).items()}


def places(web, letter, less=()):
    return [(letter, place) for place in range(len(web)) if place not in less]


def calm(web):
    return len(calm_pieces_by_spreading(web)) == len(pieces_by_ties(web))


def pairs_of_webs():
    """Pairs of webs of few places, of all kinds."""
    several = list(small_webs(3))
    return list(product(several[::2], several[::3])) + list(zip(list(small_webs())[::17], several * 3))


def some_webs(seed):
    turned_friends = turned_anew(full_web(6, 1), (1, 2, 5))
    return list(drawn_webs(seed, 4, 5, 6)) + [
        turned_friends, full_web(6, -1), circle_web(7, True), circle_web(6, False), empty_web(5),
        web_of(8, {(0, 1): -1, (0, 2): 1, (1, 2): 1, (2, 3): 1, (3, 4): -1, (4, 5): 1, (5, 3): 1, (5, 6): -1})]


def great_webs(seed):
    return list(drawn_webs(seed, 4, 8, 10)) + [full_web(10, 1), full_web(10, -1), empty_web(10), circle_web(10, True)]


class Joined(unittest.TestCase):
    def test_at_a_place(self):
        for web, other in pairs_of_webs():
            for place in range(len(web)):
                for spot in range(len(other)):
                    names = places(web, "a") + places(other, "b", (spot,))
                    moved = {tuple(("a", place) if end == ("b", spot) else end for end in pair): sign
                             for pair, sign in named(other, "b").items()}
                    told = joined_at(web, other, place, spot)
                    self.assertEqual(told, web_by_names(names, named(web, "a"), moved))
                    self.assertTrue(is_web(told))

    def test_all(self):
        for web, other in pairs_of_webs():
            for sign in (1, -1):
                across = {pair: sign for pair in product(places(web, "a"), places(other, "b"))}
                names = places(web, "a") + places(other, "b")
                told = web_by_names(names, named(web, "a"), named(other, "b"), across)
                self.assertEqual(joined_all(web, other, sign), told)

    def test_put_in(self):
        for web, other in pairs_of_webs():
            for place in range(len(web)):
                names = places(web, "a", (place,)) + places(other, "b")
                kept = {pair: sign for pair, sign in named(web, "a").items() if ("a", place) not in pair}
                across = {(("a", x), end): web[place][x] for x in range(len(web)) if web[place][x]
                          for end in places(other, "b")}
                self.assertEqual(put_in(web, place, other), web_by_names(names, kept, named(other, "b"), across))

    def test_ten_and_eleven_places(self):
        ten, six, five, four = full_web(10, -1), circle_web(6, True), full_web(5, 1), full_web(4, -1)
        self.assertEqual(len(joined_at(six, five, 5, 4)), 10)
        self.assertEqual(joined_at(ten, ONE, 9, 0), ten)
        self.assertEqual(sorted(map(len, (joined_at(ONE, ten, 0, 3),))), [10])
        self.assertEqual([len(joined_all(six, four, 1)), len(put_in(six, 3, five))], [10, 10])
        self.assertEqual([put_in(ONE, 0, ten), put_in(ten, 9, ONE)], [ten, ten])
        nine = full_web(9, -1)
        self.assertEqual([len(parted_tie(nine, (7, 8))), with_place(nine, (-1,) * 9)], [10, ten])
        for function, *values in (
            (joined_at, six, six, 0, 5), (joined_at, ten, FRIENDS, 9, 1), (joined_at, FRIENDS, ten, 0, 9),
            (joined_all, six, five, 1), (joined_all, ten, ONE, -1), (joined_all, ONE, ten, 1),
            (put_in, six, 0, six), (put_in, ten, 3, FOES), (put_in, FOES, 1, ten),
            (parted_tie, ten, (0, 9)), (with_place, ten, (0,) * 10), (with_place, ten, (1, -1) * 5),
        ):
            with self.assertRaises(TooMany) as caught:
                function(*values)
            self.assertEqual(caught.exception.count, 10)

    def test_errors_of_parameters_come_ahead(self):
        ten = full_web(10, -1)
        for error, function, *values in (
            (InvalidWeb, joined_at, ten, None, 10, 10), (InvalidPlace, joined_at, ten, ten, 10, 0),
            (InvalidPlace, joined_at, ten, ten, 0, 10), (InvalidPlace, joined_at, ten, FRIENDS, 0, 2),
            (InvalidPlace, joined_at, FRIENDS, ten, 2, 2), (TooMany, joined_at, FRIENDS, ten, 1, 2),
            (InvalidPlace, put_in, ten, 10, None), (InvalidWeb, put_in, ten, 9, None),
            (InvalidPlace, put_in, FRIENDS, 2, ten), (InvalidSigns, with_place, ten, (0,) * 9),
            (InvalidSigns, with_place, ten, (2,) * 10), (InvalidTie, parted_tie, ten, (9, 0)),
        ):
            with self.assertRaises(error):
                function(*values)


class Places(unittest.TestCase):
    def test_parted(self):
        for web in list(small_webs()) + some_webs(801):
            for x, y in pairs_tied(web):
                signs = signs_of(web)
                sign = signs.pop((x, y))
                signs.update({(x, len(web)): 1, (y, len(web)): sign})
                self.assertEqual(parted_tie(web, (x, y)), web_of(len(web) + 1, signs))

    def test_with_place(self):
        for web in list(small_webs(3)) + list(small_webs())[31::40]:
            for signs in product((1, 0, -1), repeat=len(web)):
                told = signs_of(web)
                told.update({(x, len(web)): sign for x, sign in enumerate(signs)})
                self.assertEqual(with_place(web, signs), web_of(len(web) + 1, told))
                self.assertEqual(less_place(with_place(web, signs), len(web)), web)

    def test_signs_of_a_further_place(self):
        for signs in (None, (), (1,), (1, 0), (1, 0, -1, 0), [1, 0, -1], (1, 0, 2), (1, 0, True), (False, 0, 1), "+.-",
                      (1, 0, None), (1, 0, (1,)), (1, 0, [1]), ((1, 0, -1),), 0, True, (1, 0, "1"), (0,) * 3000):
            with self.assertRaises(InvalidSigns):
                with_place(TRI, signs)
        self.assertEqual(len(with_place(TRI, (0, 0, 0))), 4)

    def test_less_place(self):
        for web in list(small_webs())[1:] + some_webs(802) + great_webs(802):
            for place in range(len(web)):
                told = inner_anew(web, [one for one in range(len(web)) if one != place])
                if len(web) > 1:
                    self.assertEqual(less_place(web, place), told)

    def test_the_only_place(self):
        for place in (0, 1, -1, None, True):
            with self.assertRaises(InvalidPlace):
                less_place(ONE, place)
        for place in (2, -1, True, None, "0"):
            with self.assertRaises(InvalidPlace):
                less_place(FRIENDS, place)

    def test_trimmed(self):
        for web in list(small_webs()) + some_webs(803) + great_webs(803):
            good = [lot for lot in lots_of(len(web))
                    if all(sum(web[x][y] != 0 for y in lot) >= 2 for x in lot)] if len(web) < 9 else []
            if good:
                self.assertEqual(trimmed(web), good[-1])
            left = list(range(len(web)))
            for _ in web:
                left = [x for x in left if sum(web[x][y] != 0 for y in left) > 1]
            self.assertEqual(trimmed(web), tuple(left))
        for web in (ONE, FRIENDS, FOES, empty_web(10), web_of(10, {(at, at + 1): -1 for at in range(9)})):
            self.assertEqual(trimmed(web), ())
        self.assertEqual(trimmed(circle_web(10, True)), tuple(range(10)))
        tail = web_of(6, {(0, 1): 1, (1, 2): -1, (3, 4): 1, (4, 5): -1, (3, 5): 1, (2, 3): 1})
        self.assertEqual(trimmed(tail), (3, 4, 5))


class Drawn(unittest.TestCase):
    def threes(self, web, tie):
        return [(x, y, z) for x, y, z in combinations(range(len(web)), 3)
                if web[x][y] * web[x][z] * web[y][z] == -1 and set(tie) <= {x, y, z}]

    def check(self, web):
        for x, y in pairs_tied(web):
            bad = self.threes(web, (x, y))
            if bad:
                with self.assertRaises(NotBalanced) as caught:
                    drawn(web, (x, y))
                self.assertTrue(exactly(caught.exception.ring, bad))
                continue
            from_web = web if web[x][y] == 1 else turned_anew(web, (y,))
            signs = {}
            for (a, b), sign in signs_of(from_web).items():
                a, b = sorted(x if end == y else end for end in (a, b))
                if a != b:
                    signs.setdefault((a, b), sign)
                    self.assertEqual(signs[(a, b)], sign)
            whole = web_of(len(web), signs)
            told = inner_anew(whole, [place for place in range(len(web)) if place != y])
            self.assertEqual(drawn(web, (x, y)), told)

    def test_of_small_webs(self):
        for web in small_webs():
            self.check(web)

    def test_of_greater_webs(self):
        for web in some_webs(804) + [circle_web(10, True), web_of(10, {(at, at + 1): -1 for at in range(9)})]:
            self.check(web)

    def test_edges(self):
        self.assertEqual([drawn(FRIENDS, (0, 1)), drawn(FOES, (0, 1))], [ONE, ONE])
        self.assertEqual(drawn(full_web(10, 1), (0, 9)), full_web(9, 1))
        with self.assertRaises(NotBalanced) as caught:
            drawn(TRI, (1, 2))
        self.assertEqual(caught.exception.ring, (0, 1, 2))
        # The only bad round of three lies at another tie.
        web = web_of(4, {(0, 1): -1, (0, 2): 1, (1, 2): 1, (2, 3): -1})
        self.assertEqual(drawn(web, (2, 3)), TRI)
        for tie in ((0, 1), (0, 2), (1, 2)):
            with self.assertRaises(NotBalanced) as caught:
                drawn(web, tie)
            self.assertEqual(caught.exception.ring, (0, 1, 2))


class Facts(unittest.TestCase):
    def webs(self, seed):
        return list(small_webs())[::2] + some_webs(seed)

    def test_m1_trouble_joined_at_a_place(self):
        draw = Draw(811)
        several = [web for web in self.webs(811)[::9] + some_webs(811) if len(web) < 6]
        for web, other in zip(several, several[::-1]):
            told = joined_at(web, other, draw.below(len(web)), draw.below(len(other)))
            self.assertEqual(trouble(told), trouble_anew(web) + trouble_anew(other))

    def test_m2_put_in(self):
        draw = Draw(812)
        for web, other in pairs_of_webs():
            place = draw.below(len(web))
            told = put_in(web, place, other)
            good = all(sign == 1 for sign in signs_of(other).values()) if any(web[place]) else calm(other)
            self.assertIs(is_balanced(told), calm(web) and good)
            put = tuple(range(len(web) - 1, len(told)))
            self.assertEqual(put_in(turned(web, (place,)), place, other), turned(told, put))

    def test_m3_joined_all(self):
        for web, other in pairs_of_webs():
            whole = joined_all(web, other, 1)
            self.assertIs(is_balanced(whole), -1 not in [*signs_of(web).values(), *signs_of(other).values()])
            lot = tuple(range(len(web), len(whole)))
            self.assertEqual(joined_all(web, other, -1), turned(whole, lot))

    def test_m4_parted(self):
        for web in self.webs(814):
            if len(web) > 6:
                continue
            for x, y in pairs_tied(web)[::2]:
                told = parted_tie(web, (x, y))
                moved = {}
                for ring in rings(web):
                    row = list(ring)
                    if (x, y) in ties_anew(ring):
                        at = row.index(x)
                        row.insert(at + 1 if row[(at + 1) % len(row)] == y else at, len(web))
                    moved[ring_told(told, tuple(row))] = ring_sign(web, ring)
                self.assertEqual({ring: ring_sign(told, ring) for ring in rings(told)}, moved)
                self.assertEqual(trouble(told), trouble(web))

    def test_m5_drawn(self):
        for web in self.webs(815) + great_webs(815):
            for tie in pairs_tied(web)[::3]:
                try:
                    told = drawn(web, tie)
                except NotBalanced:
                    self.assertFalse(calm(web))
                else:
                    self.assertIs(calm(told), calm(web))

    def test_m6_trouble_without_a_place(self):
        for web in self.webs(816) + great_webs(816)[::3]:
            least = trouble(web)
            for place in range(len(web)):
                if len(web) > 1:
                    gone = trouble(less_place(web, place))
                    self.assertTrue(gone <= least <= gone + sum(map(abs, web[place])) // 2)

    def test_m7_trimmed(self):
        for web in self.webs(817) + great_webs(817)[::3]:
            lot = trimmed(web)
            self.assertEqual(trouble(web), trouble(inner_anew(web, lot)) if lot else 0)
            if len(web) < 7:
                self.assertTrue(all(set(ring) <= set(lot) for ring in rounds_anew(web)))
                self.assertEqual(bad_rings(web), [ring for ring in rings(web) if sign_anew(web, ring) == -1])
                self.assertIs(balanced_anew(web), calm(web))

    def test_of_ties_left_alone(self):
        for web in great_webs(818):
            only = web_of_set(web, pairs_tied(web)[:9])
            self.assertTrue(set(trimmed(only)) <= set(trimmed(web)))
            self.assertTrue(all(x < y for x, y in combinations(trimmed(web), 2)))


if __name__ == "__main__":
    unittest.main()
