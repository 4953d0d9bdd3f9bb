import unittest
from itertools import combinations

from signrounds.errors import InvalidTie, NotFree, TooMany
from signrounds.free_sets import (
    bind_in, bind_with, first_free, free_counts, is_bind, is_free, is_lightest, lightest_free, rank_of,
)
from signrounds.webs import beside, turned
from tests.calls import many_values
from tests.counts import (
    binds_anew, camps_anew, exactly, inner_anew, is_free_anew, pieces_by_ties, rank_anew, rounds_anew, sets_of,
    sign_anew, ties_anew, turned_anew, ways_anew, web_of_set,
)
from tests.samples import (
    Draw, circle_web, drawn_webs, empty_web, full_web, pairs_tied, signings, small_webs, spoilt, web_of,
)

# Two bad rounds with one common place; two with a tie between; two with a way of two ties; the last with a
# good round beside.
BOW = web_of(5, {(0, 1): -1, (0, 2): 1, (1, 2): 1, (2, 3): 1, (2, 4): -1, (3, 4): 1})
CUFFS = web_of(6, {(0, 1): -1, (0, 2): 1, (1, 2): 1, (2, 3): -1, (3, 4): 1, (3, 5): -1, (4, 5): 1})
LONG = web_of(7, {(0, 1): -1, (0, 2): 1, (1, 2): 1, (2, 3): -1, (3, 4): 1, (4, 5): 1, (4, 6): -1, (5, 6): 1})
MIXED = web_of(7, {(0, 1): -1, (0, 2): 1, (1, 2): 1, (2, 3): -1, (3, 4): 1, (3, 5): -1, (4, 5): 1, (0, 6): 1, (1, 6): 1})


def some_webs(seed):
    """Webs of at most ten ties."""
    told = [web for web in drawn_webs(seed, 3, 5, 7) if len(pairs_tied(web)) <= 9]
    return told + [BOW, CUFFS, LONG, MIXED, circle_web(7, True), circle_web(7, False), empty_web(1), empty_web(10),
                   beside(circle_web(3, True), circle_web(4, True)), beside(circle_web(3, False), full_web(2, -1))]


def great_webs():
    calm = turned_anew(full_web(10, 1), (1, 2, 5, 9))
    return [calm, full_web(10, -1), circle_web(10, True), circle_web(10, False), empty_web(10),
            beside(full_web(5, -1), full_web(5, -1)), *drawn_webs(501, 4, 8, 10)]


class Free(unittest.TestCase):
    def check(self, web):
        several = sets_of(pairs_tied(web))
        free = {some for some in several if is_free_anew(web, some)}
        binds = binds_anew(web)
        for some in several:
            self.assertIs(is_free(web, some), some in free)
            self.assertIs(is_bind(web, some), some in binds)
        ranks = {}
        for some in several:
            ranks[some] = len(some) if some in free else max(ranks[some[:at] + some[at + 1:]] for at in range(len(some)))
            self.assertEqual(rank_of(web, some), ranks[some])
        most = max(map(len, free))
        self.assertEqual(first_free(web), min(some for some in free if len(some) == most))
        self.assertEqual(free_counts(web), [sum(len(some) == size for some in free) for size in range(most + 1)])
        for some in several[::3] + several[-1:]:
            told = bind_in(web, some)
            self.assertIs(told is None, some in free)
            self.assertTrue(told is None or exactly(told, [bind for bind in binds if set(bind) <= set(some)]))

    def test_of_small_webs(self):
        for web in small_webs():
            self.check(web)

    def test_of_greater_webs(self):
        for web in some_webs(502):
            self.check(web)

    def test_the_own_count_by_rounds(self):
        for web in list(small_webs(3)) + list(small_webs())[::9] + [BOW, CUFFS]:
            for some in sets_of(pairs_tied(web)):
                only = web_of_set(web, some)
                several = rounds_anew(only)
                free = all(sign_anew(web, ring) == -1 for ring in several) and all(
                    sum(ring[0] in piece for ring in several) <= 1 for piece in pieces_by_ties(only))
                self.assertIs(is_free_anew(web, some), free)

    def test_of_ten_places(self):
        draw = Draw(503)
        for web in great_webs():
            everything = tuple(pairs_tied(web))
            calm = sum(bool(camps_anew(inner_anew(web, piece))) for piece in pieces_by_ties(web))
            self.assertEqual(rank_of(web, everything), len(web) - calm)
            first = first_free(web)
            self.assertTrue(len(first) == len(web) - calm and is_free_anew(web, first))
            for at, tie in enumerate(first):
                ahead = [one for one in everything if one < tie and one not in first[:at]]
                self.assertFalse([one for one in ahead if is_free_anew(web, first[:at] + (one,))])
            for _ in range(12):
                some = tuple(tie for tie in everything if draw.below(4) == 0)
                self.assertIs(is_free(web, some), is_free_anew(web, some))
                told = bind_in(web, some)
                self.assertIs(told is None, is_free_anew(web, some))
                if told is not None:
                    self.assertLessEqual(set(told), set(some))
                    self.assertEqual(list(told), sorted(told))
                    self.assertFalse(is_free_anew(web, told))
                    self.assertTrue(all(is_free_anew(web, told[:at] + told[at + 1:]) for at in range(len(told))))
                    self.assertTrue(is_bind(web, told))

    def test_edges(self):
        for web in (empty_web(1), empty_web(10)):
            self.assertEqual([is_free(web, ()), rank_of(web, ()), first_free(web), bind_in(web, ()), is_bind(web, ()),
                              free_counts(web)], [True, 0, (), None, False, [1]])
        web = circle_web(10, True)
        self.assertEqual([first_free(web), bind_in(web, first_free(web))], [tuple(pairs_tied(web)), None])
        self.assertEqual(bind_in(circle_web(10, False), tuple(pairs_tied(web))), tuple(pairs_tied(web)))
        self.assertIs(is_bind(circle_web(10, False), tuple(pairs_tied(web))), True)
        self.assertEqual([len(first_free(full_web(10, -1))), len(first_free(full_web(10, 1)))], [10, 9])

    def test_is_bind_of_any_value(self):
        for web in (BOW, CUFFS, full_web(4, 1), full_web(4, -1), circle_web(5, False)):
            binds = binds_anew(web)
            for value in many_values() + [value for bind in binds[:2] + binds[-1:] for value in spoilt(bind)]:
                kept = repr(value)
                self.assertIs(is_bind(web, value), exactly(value, binds), value)
                self.assertEqual(repr(value), kept)


class BindWith(unittest.TestCase):
    def check(self, web, several):
        binds = binds_anew(web)
        for some in several:
            free = is_free_anew(web, some)
            for tie in pairs_tied(web):
                if tie in some:
                    with self.assertRaises(InvalidTie):
                        bind_with(web, some, tie)
                elif not free:
                    with self.assertRaises(NotFree) as caught:
                        bind_with(web, some, tie)
                    self.assertTrue(exactly(caught.exception.ties, [one for one in binds if set(one) <= set(some)]))
                else:
                    found = [bind for bind in binds if set(bind) <= {*some, tie}]
                    self.assertLessEqual(len(found), 1)
                    self.assertEqual(bind_with(web, some, tie), found[0] if found else None)

    def test_of_small_webs(self):
        for web in list(small_webs(3)) + list(small_webs())[::7] + list(signings(full_web(4, 1)))[::5]:
            self.check(web, sets_of(pairs_tied(web)))

    def test_of_greater_webs(self):
        for web in some_webs(504):
            self.check(web, sets_of(pairs_tied(web))[::7])

    def test_of_ten_places(self):
        for web in great_webs():
            first = first_free(web)
            for tie in pairs_tied(web):
                if tie in first:
                    with self.assertRaises(InvalidTie):
                        bind_with(web, first, tie)
                    continue
                told = bind_with(web, first, tie)
                inside = [one for one in first if is_free_anew(
                    web, tuple(sorted([*(more for more in first if more != one), tie])))]
                self.assertEqual(told, tuple(sorted(inside + [tie])))
        with self.assertRaises(NotFree) as caught:
            bind_with(full_web(10, 1), ((0, 1), (0, 2), (0, 3), (1, 2)), (8, 9))
        self.assertEqual(caught.exception.ties, ((0, 1), (0, 2), (1, 2)))

    def test_errors_in_their_order(self):
        web, whole = full_web(4, 1), tuple(pairs_tied(full_web(4, 1)))
        for error, ties, tie in ((InvalidTie, whole, (1, 0)), (InvalidTie, whole, (0, 1)), (NotFree, whole[:4], (2, 3))):
            with self.assertRaises(error) as caught:
                bind_with(web, ties, tie)
            self.assertIs(type(caught.exception), error)


class Lightest(unittest.TestCase):
    def weights(self, seed, web):
        draw = Draw(seed)
        many = len(pairs_tied(web))
        for most in (2, 4, 1000001):
            yield tuple(draw.below(most) for _ in range(many))
        yield (0,) * many
        yield (1000000,) * many
        yield tuple(range(many))
        yield tuple(range(many, 0, -1))

    def check(self, web, seed, part):
        several = [some for some in sets_of(pairs_tied(web)) if is_free_anew(web, some)]
        greatest = [some for some in several if len(some) == len(several[-1])]
        for weights in self.weights(seed, web):
            worth = dict(zip(pairs_tied(web), weights))
            sums = {some: sum(worth[tie] for tie in some) for some in greatest}
            least = min(sums.values())
            told = lightest_free(web, weights)
            self.assertIsInstance(told, tuple)
            self.assertEqual(told[0], least)
            self.assertTrue(exactly(told[1], [some for some in greatest if sums[some] == least]))
            for some in sets_of(pairs_tied(web))[::part] + greatest[::3]:
                self.assertIs(is_lightest(web, weights, some), sums.get(some) == least)

    def test_of_small_webs(self):
        for at, web in enumerate(list(small_webs(3)) + list(small_webs())[::4]):
            self.check(web, 511 + at, 1)

    def test_of_greater_webs(self):
        for at, web in enumerate(some_webs(512)):
            self.check(web, 531 + at, 5)

    def test_of_ten_places(self):
        draw = Draw(513)
        for web in great_webs():
            for weights in self.weights(514, web):
                least, told = lightest_free(web, weights)
                worth = dict(zip(pairs_tied(web), weights))
                self.assertEqual(least, sum(worth[tie] for tie in told))
                self.assertEqual(len(told), len(first_free(web)))
                self.assertTrue(is_free_anew(web, told) and is_lightest(web, weights, told))
                for tie in [one for one in pairs_tied(web) if one not in told and draw.below(3) == 0]:
                    for one in told:
                        other = tuple(sorted([*(more for more in told if more != one), tie]))
                        if is_free_anew(web, other):
                            self.assertGreaterEqual(worth[tie], worth[one])
                            self.assertIs(is_lightest(web, weights, other), worth[tie] == worth[one])

    def test_edges(self):
        for web in (empty_web(1), empty_web(10)):
            self.assertEqual([lightest_free(web, ()), is_lightest(web, (), ())], [(0, ()), True])
        web = circle_web(3, False)
        self.assertEqual(lightest_free(web, (1000000, 0, 1000000))[0], 1000000)
        self.assertIs(is_lightest(web, (1, 1, 1), ((0, 1),)), False)
        self.assertIs(is_lightest(web, (1, 1, 1), ((0, 1), (0, 2), (1, 2))), False)
        self.assertIs(is_lightest(web, (0, 0, 0), ()), False)


class Counts(unittest.TestCase):
    def test_twelve_and_thirteen_ties(self):
        twelve = web_of(6, {pair: -1 for pair in list(combinations(range(6), 2))[:12]})
        several = [some for some in sets_of(pairs_tied(twelve)) if is_free_anew(twelve, some)]
        self.assertEqual(free_counts(twelve), [sum(len(some) == size for some in several) for size in range(7)])
        ten = beside(circle_web(5, True), full_web(4, 1))
        self.assertEqual(len(pairs_tied(ten)), 11)
        self.assertEqual(len(free_counts(ten)), 9)
        thirteen = [web_of(many, {pair: 1 for pair in list(combinations(range(many), 2))[:13]}) for many in (6, 10)]
        for web in thirteen + [full_web(10, -1), full_web(6, 1)]:
            with self.assertRaises(TooMany) as caught:
                free_counts(web)
            self.assertEqual(caught.exception.count, 12)

    def test_new_at_each_call(self):
        free_counts(BOW).clear()
        self.assertEqual(free_counts(BOW)[0], 1)


class Facts(unittest.TestCase):
    def webs(self, seed):
        return list(small_webs(3)) + list(small_webs())[::5] + some_webs(seed)

    def test_g1_exchange(self):
        for web in self.webs(521):
            free = [some for some in sets_of(pairs_tied(web)) if is_free(web, some)]
            for some in free[::3] + free[-3:]:
                for at in range(len(some)):
                    self.assertTrue(is_free(web, some[:at] + some[at + 1:]))
                for other in free[::7] + free[-2:]:
                    if len(some) < len(other):
                        self.assertTrue(any(is_free(web, tuple(sorted([*some, tie])))
                                            for tie in other if tie not in some))

    def test_g2_rank(self):
        for web in self.webs(522):
            for some in sets_of(pairs_tied(web))[::4]:
                only = web_of_set(web, some)
                calm = [piece for piece in pieces_by_ties(only) if camps_anew(inner_anew(only, piece))]
                self.assertEqual(rank_of(web, some), len(web) - len(calm))
                if len(some) < 7:
                    self.assertEqual(rank_of(web, some), rank_anew(web, some))

    def binds_by_rounds(self, web):
        """Good rounds, and pairs of bad ones with one common place or a way between."""
        rounds = rounds_anew(web)
        bad = [ring for ring in rounds if sign_anew(web, ring) == -1]
        told = {tuple(ties_anew(ring)) for ring in rounds if ring not in bad}
        for one, other in combinations(bad, 2):
            both = set(one) & set(other)
            ties = ties_anew(one) + ties_anew(other)
            if len(both) == 1:
                told.add(tuple(sorted(ties)))
            if not both:
                for way in [way for x in one for y in other for way in ways_anew(web, x, y)]:
                    if not set(way[1:-1]) & {*one, *other}:
                        told.add(tuple(sorted(ties + [tuple(sorted(pair)) for pair in zip(way, way[1:])])))
        return told

    def test_g3_binds(self):
        for web in self.webs(523) + [full_web(4, -1), full_web(4, 1)]:
            told = self.binds_by_rounds(web)
            self.assertEqual(set(binds_anew(web)), told)
            for bind in told:
                self.assertIs(is_bind(web, bind), True)
        self.assertTrue(any(len(bind) == 8 for bind in self.binds_by_rounds(LONG)))

    def test_g4_one_bind(self):
        for web in self.webs(524):
            free = [some for some in sets_of(pairs_tied(web)) if is_free(web, some)]
            for some in free[::3]:
                for tie in pairs_tied(web):
                    if tie not in some:
                        bind = bind_with(web, some, tie)
                        whole = tuple(sorted([*some, tie]))
                        self.assertIs(bind is None, is_free(web, whole))
                        for one in bind or ():
                            self.assertTrue(is_free(web, tuple(more for more in whole if more != one)))

    def test_g5_lightest(self):
        draw = Draw(525)
        for web in self.webs(525):
            weights = tuple(draw.below(4) for _ in pairs_tied(web))
            worth = dict(zip(pairs_tied(web), weights))
            free = [some for some in sets_of(pairs_tied(web)) if is_free(web, some)]
            for some in [one for one in free if len(one) == len(free[-1])][::2]:
                light = True
                for tie in pairs_tied(web):
                    if tie not in some:
                        light = light and all(worth[one] <= worth[tie] for one in bind_with(web, some, tie))
                self.assertIs(is_lightest(web, weights, some), light)

    def test_g6_turned(self):
        draw = Draw(526)
        for web in self.webs(526):
            other = turned(web, draw.lot(len(web)))
            for some in sets_of(pairs_tied(web))[::3]:
                self.assertIs(is_free(other, some), is_free(web, some))
                self.assertIs(is_bind(other, some), is_bind(web, some))
                self.assertEqual(rank_of(other, some), rank_of(web, some))


if __name__ == "__main__":
    unittest.main()
