import unittest
from itertools import combinations, permutations, product

from signrounds.camps import camps, is_camp
from signrounds.doubled import (
    doubled, doubled_tree_count, dropped, is_doubled, is_twin_map, lifted, sheet_pieces, shortest_walk, step_table,
    twin_maps, undoubled, walk_counts, walk_sign, web_of_twins,
)
from signrounds.errors import InvalidCount, InvalidPlace, InvalidRow, InvalidTable, InvalidWalk, TooMany
from signrounds.weights import free_weight, tree_count
from signrounds.webs import beside, turned
from tests.calls import many_values
from tests.counts import (
    calm_pieces_by_spreading, exactly, inner_anew, leading_anew, pieces_by_ties, renamed_anew, rounds_anew,
    same_ties_anew, sign_anew, web_of_set,
)
from tests.samples import (
    Draw, circle_web, drawn_webs, empty_web, full_web, pairs_tied, small_webs, spoilt, web_of,
)


def doubled_anew(web):
    """The doubled web, pair by pair."""
    many = len(web)
    pairs = {}
    for x, y in pairs_tied(web):
        for a, b in ((x, y), (x + many, y + many)) if web[x][y] == 1 else ((x, y + many), (y, x + many)):
            pairs[(a, b)] = 1
    return web_of(2 * many, pairs)


def walks_anew(web, start, number):
    """All walks of so many ties from the start."""
    told = [(start,)]
    for _ in range(number):
        told = [walk + (place,) for walk in told for place in range(len(web)) if web[walk[-1]][place]]
    return told


def walk_sign_anew(web, walk):
    sign = 1
    for x, y in zip(walk, walk[1:]):
        sign *= web[x][y]
    return sign


def drawn_walk(draw, web, number):
    walk = [draw.below(len(web))]
    for _ in range(number):
        places = [place for place, sign in enumerate(web[walk[-1]]) if sign]
        if places:
            walk.append(draw.one(places))
    return tuple(walk)


def is_twin_map_anew(table, row):
    places = range(len(table))
    for x in places:
        if row[row[x]] != x or row[x] == x or table[x][row[x]]:
            return False
        if any(table[y][x] and table[y][row[x]] for y in places):
            return False
        if any(table[row[x]][row[y]] != table[x][y] for y in places):
            return False
    return True


def drawn_table(draw, many, tied):
    return web_of(many, {pair: 1 for pair in combinations(range(many), 2) if draw.below(100) < tied})


def some_webs(seed):
    calm = turned(full_web(6, 1), (1, 2, 5))
    return list(drawn_webs(seed, 4, 5, 7)) + [calm, full_web(6, -1), circle_web(7, True), circle_web(6, False),
                                              beside(circle_web(3, True), circle_web(4, False)), empty_web(5)]


def great_webs(seed):
    return list(drawn_webs(seed, 4, 8, 10)) + [
        turned(full_web(10, 1), (1, 2, 5, 9)), full_web(10, 1), full_web(10, -1), empty_web(10), circle_web(10, True),
        circle_web(9, False), beside(full_web(5, -1), full_web(5, 1))]


TRI = ((0, -1, 1), (-1, 0, 1), (1, 1, 0))


class Tables(unittest.TestCase):
    def test_doubled_and_back(self):
        for web in list(small_webs()) + some_webs(751) + great_webs(751):
            table = doubled(web)
            self.assertEqual(table, doubled_anew(web))
            self.assertTrue(isinstance(table, tuple) and all(isinstance(row, tuple) for row in table))
            self.assertIs(is_doubled(table), True)
            self.assertEqual(undoubled(table), web)

    def test_of_one_place(self):
        web = empty_web(1)
        self.assertEqual([doubled(web), undoubled(((0, 0), (0, 0))), sheet_pieces(web)],
                         [((0, 0), (0, 0)), web, [(0,), (1,)]])
        self.assertEqual([shortest_walk(web, 0, 0, 1), shortest_walk(web, 0, 0, -1), step_table(web, 0)],
                         [(0,), None, [(0, None)]])
        self.assertEqual([walk_counts(web, 0, 0, 0), walk_counts(web, 0, 0, 60), doubled_tree_count(web)],
                         [(1, 0), (0, 0), 0])
        self.assertEqual([walk_sign(web, (0,)), lifted(web, (0,), 1), dropped(web, (1,))], [1, (1,), (0,)])

    def test_which_tables_are_doubled_webs(self):
        for many in (1, 2, 3, 4):
            good = {doubled_anew(web) for web in small_webs(many // 2)} if many > 1 else set()
            good = {table for table in good if len(table) == many}
            pairs = list(combinations(range(many), 2))
            for entries in product((0, 1), repeat=len(pairs)):
                table = web_of(many, dict(zip(pairs, entries)))
                self.assertIs(is_doubled(table), table in good, table)
                if table not in good:
                    with self.assertRaises(InvalidTable):
                        undoubled(table)

    def test_tables_a_little_other(self):
        for web in some_webs(752)[::4] + [TRI, full_web(10, -1)]:
            many = len(web)
            table = doubled(web)
            for x, y in list(combinations(range(2 * many), 2))[::7] + [(0, many), (many - 1, 2 * many - 1)]:
                rows = [list(row) for row in table]
                rows[x][y] = rows[y][x] = 1 - rows[x][y]
                other = tuple(map(tuple, rows))
                self.assertIs(is_doubled(other), False)
                with self.assertRaises(InvalidTable):
                    undoubled(other)
            # Twins told the other way about are those of the turned web, all other exchanges are of none.
            row = list(range(2 * many))
            row[0], row[many] = row[many], row[0]
            self.assertEqual(undoubled(renamed_anew(table, row)), turned(web, (0,)))

    def test_any_value(self):
        for web in (empty_web(1), full_web(2, -1), TRI, circle_web(4, True)):
            table = doubled(web)
            tables = {repr(doubled_anew(one)) for one in [*small_webs(), empty_web(5), circle_web(10, True)]}
            for value in many_values() + [table] + list(spoilt(table)):
                kept = repr(value)
                self.assertIs(is_doubled(value), repr(value) in tables, value)
                self.assertEqual(repr(value), kept)
                if repr(value) not in tables:
                    with self.assertRaises(InvalidTable):
                        undoubled(value)
        self.assertFalse(is_doubled(web_of(22, {})))
        self.assertTrue(is_doubled(web_of(20, {})))
        self.assertFalse(is_doubled(web_of(19, {})))

    def test_sheet_pieces(self):
        for web in list(small_webs()) + some_webs(753) + great_webs(753):
            self.assertEqual(sheet_pieces(web), sorted(pieces_by_ties(doubled_anew(web))))
        sheet_pieces(TRI).clear()
        self.assertEqual(sheet_pieces(TRI), [(0, 1, 2, 3, 4, 5)])


class Walks(unittest.TestCase):
    def test_lifted_and_dropped(self):
        for web in list(small_webs(3)) + list(small_webs())[31::25]:
            many, table = len(web), doubled_anew(web)
            for start in range(many):
                for number in range(4):
                    for walk in walks_anew(web, start, number):
                        self.assertEqual(walk_sign(web, walk), walk_sign_anew(web, walk))
                        for place in (start, start + many):
                            above = [one for one in walks_anew(table, place, number)
                                     if tuple(end % many for end in one) == walk]
                            self.assertEqual([lifted(web, walk, place)], above)
                            self.assertEqual(dropped(web, above[0]), walk)

    def test_long_walks(self):
        draw = Draw(761)
        for web in some_webs(761) + great_webs(761):
            for number in (0, 5, 2999):
                walk = drawn_walk(draw, web, number)
                self.assertEqual(walk_sign(web, walk), walk_sign_anew(web, walk))
                for place in (walk[0], walk[0] + len(web)):
                    told = lifted(web, walk, place)
                    self.assertEqual(dropped(web, told), walk)
                    self.assertEqual(told[0], place)
                    self.assertTrue(all(doubled_anew(web)[x][y] for x, y in zip(told[:20], told[1:20])))

    def test_wrong_places_and_walks(self):
        for place in (1, 2, 4, 5, 6, -3, -1, True, False, None, (0,), "0", 10**89):
            with self.assertRaises(InvalidPlace):
                lifted(TRI, (0, 1, 2), place)
        for place in (1, 4):
            self.assertEqual(lifted(TRI, (1,), place), (place,))
        for walk in ((0, 1), (0, 3), (0, 4, 2), (6,), (-1,), (), [0, 4], (0, None), (0, True), None, (0, 4, 5, 6)):
            with self.assertRaises(InvalidWalk):
                dropped(TRI, walk)
        for walk in ((0, 0), (), (3,), (0, 1, 1), [0, 1], (0, True), (0, -1), None, "01", (0, 1, 2, 3)):
            for function in (lambda: walk_sign(TRI, walk), lambda: lifted(TRI, walk, None)):
                with self.assertRaises(InvalidWalk):
                    function()
        with self.assertRaises(InvalidWalk):
            walk_sign(circle_web(4, True), (0, 2))

    def test_shortest_walks(self):
        for web in list(small_webs(3)) + list(small_webs())[31::10] + some_webs(762)[::3]:
            many = len(web)
            most = 2 * many
            for place in range(many):
                first = {}
                reached = {(place, 1)}
                for number in range(most):
                    for state in reached:
                        first.setdefault(state, number)
                    reached = {(other, sign * web[end][other]) for end, sign in reached for other in range(many)
                               if web[end][other]}
                steps = [(first.get((goal, 1)), first.get((goal, -1))) for goal in range(many)]
                self.assertEqual(step_table(web, place), steps)
                for goal in range(many):
                    for sign in (1, -1):
                        told = shortest_walk(web, place, goal, sign)
                        if (goal, sign) not in first:
                            self.assertIsNone(told)
                            continue
                        self.assertIsInstance(told, tuple)
                        self.assertEqual([told[0], told[-1], len(told) - 1], [place, goal, first[goal, sign]])
                        self.assertTrue(all(web[x][y] for x, y in zip(told, told[1:])))
                        self.assertEqual(walk_sign_anew(web, told), sign)
                self.assertEqual(shortest_walk(web, place, place, 1), (place,))

    def test_shortest_walks_are_among_all(self):
        for web in (TRI, circle_web(4, True), full_web(3, -1)):
            for place, goal, sign in product(range(len(web)), range(len(web)), (1, -1)):
                number = step_table(web, place)[goal][sign < 0]
                several = [walk for walk in walks_anew(web, place, number)
                           if walk[-1] == goal and walk_sign_anew(web, walk) == sign]
                self.assertTrue(exactly(shortest_walk(web, place, goal, sign), several))

    def test_of_ten_places(self):
        web = circle_web(10, True)
        self.assertEqual(step_table(web, 0), [(0, 10)] + [(at, 10 - at) for at in range(1, 10)])
        about = (3, 4, 5, 6, 7, 8, 9, 0, 1, 2, 3)
        self.assertIn(shortest_walk(web, 3, 3, -1), (about, about[::-1]))
        self.assertEqual(step_table(empty_web(10), 4), [(0 if place == 4 else None, None) for place in range(10)])
        self.assertEqual(step_table(full_web(10, 1), 0), [(0, None)] + [(1, None)] * 9)
        self.assertEqual(step_table(full_web(10, -1), 9), [(2, 1)] * 9 + [(0, 3)])

    def test_counts(self):
        for web in list(small_webs(3)) + list(small_webs())[31::20] + [full_web(5, -1)]:
            for place in range(len(web)):
                for number in range(5):
                    walks = walks_anew(web, place, number)
                    for goal in range(len(web)):
                        signs = [walk_sign_anew(web, walk) for walk in walks if walk[-1] == goal]
                        self.assertEqual(walk_counts(web, place, goal, number), (signs.count(1), signs.count(-1)))

    def test_counts_of_sixty_ties(self):
        web = full_web(10, 1)
        told = [walk_counts(web, 0, goal, 60) for goal in range(10)]
        self.assertEqual(sum(one + other for one, other in told), 9**60)
        # Of all tied friends: the walks back to the place, and to each other one.
        self.assertEqual(told, [((9**60 + 9) // 10, 0)] + [((9**60 - 1) // 10, 0)] * 9)
        self.assertEqual(walk_counts(full_web(2, -1), 0, 1, 59), (0, 1))
        self.assertEqual(walk_counts(full_web(2, -1), 0, 0, 60), (1, 0))
        for number in (61, 62, 10**89, -1, True, None):
            with self.assertRaises(InvalidCount):
                walk_counts(web, 0, 0, number)

    def test_tables_of_steps_are_new(self):
        step_table(TRI, 0).clear()
        self.assertEqual(step_table(TRI, 0), [(0, 3), (2, 1), (1, 2)])


class Trees(unittest.TestCase):
    def test_counted_anew(self):
        for web in list(small_webs(3)) + list(small_webs())[31::25]:
            table = doubled_anew(web)
            several = combinations(pairs_tied(table), len(table) - 1)
            joined = [some for some in several if len(pieces_by_ties(web_of_set(table, some))) == 1]
            self.assertEqual(doubled_tree_count(web), len(joined))

    def test_known_numbers(self):
        for many in range(3, 11):
            # The doubled web of a bad round is one round of twice as many places.
            self.assertEqual(doubled_tree_count(circle_web(many, True)), 2 * many)
            self.assertEqual(doubled_tree_count(circle_web(many, False)), 0)
        self.assertEqual([doubled_tree_count(full_web(1, 1)), doubled_tree_count(full_web(2, -1))], [0, 0])
        self.assertEqual(doubled_tree_count(beside(TRI, TRI)), 0)


class Twins(unittest.TestCase):
    def check(self, table):
        good = [row for row in permutations(range(len(table))) if is_twin_map_anew(table, row)]
        self.assertEqual(twin_maps(table), good)
        return good

    def test_of_doubled_webs(self):
        for web in small_webs(3):
            table = doubled(web)
            good = self.check(table)
            self.assertIn(tuple(range(len(web), 2 * len(web))) + tuple(range(len(web))), good)
            for row in permutations(range(len(table))) if len(web) < 3 else good:
                self.assertIs(is_twin_map(table, row), row in good)

    def test_of_drawn_tables(self):
        draw = Draw(771)
        for many in range(1, 8):
            for tied in (0, 20, 40, 60):
                self.check(drawn_table(draw, many, tied))
        path = web_of(4, {(0, 1): 1, (2, 3): 1})
        self.assertEqual(twin_maps(path), [(2, 3, 0, 1), (3, 2, 1, 0)])
        self.assertEqual(twin_maps(web_of(4, {(0, 1): 1, (1, 2): 1, (2, 3): 1, (0, 3): 1})), [])

    def test_of_ten_and_more_places(self):
        empty = web_of(10, {})
        told = twin_maps(empty)
        self.assertEqual([len(told), told[0]], [945, (1, 0, 3, 2, 5, 4, 7, 6, 9, 8)])
        self.assertEqual(told[-1], (9, 8, 7, 6, 5, 4, 3, 2, 1, 0))
        self.assertEqual(told, sorted(told))
        self.assertEqual(len(twin_maps(doubled(full_web(5, 1)))), 120)
        for web in drawn_webs(772, 4, 5, 5):
            table = doubled(web)
            good = [row for row in told if is_twin_map_anew(table, row)]
            self.assertEqual(twin_maps(table), good)
        for many in (11, 12, 20):
            with self.assertRaises(TooMany) as caught:
                twin_maps(web_of(many, {}))
            self.assertEqual(caught.exception.count, 10)
        for table in (web_of(21, {}), ((0, 1), (0, 0)), ((0, -1), (-1, 0)), None):
            with self.assertRaises(InvalidTable):
                twin_maps(table)

    def test_of_an_odd_number_of_places(self):
        for many in (1, 3, 5, 7, 9):
            self.assertEqual(twin_maps(web_of(many, {})), [])
            self.assertFalse(is_twin_map(web_of(many, {}), tuple(range(many))))
        for many in (1, 19):
            with self.assertRaises(InvalidRow):
                web_of_twins(web_of(many, {}), tuple(range(many)))

    def test_webs_of_twins(self):
        draw = Draw(773)
        for web in list(small_webs())[::9] + some_webs(773) + great_webs(773):
            many = len(web)
            table = doubled(web)
            row = tuple(range(many, 2 * many)) + tuple(range(many))
            self.assertEqual(web_of_twins(table, row), web)
            names = draw.row(2 * many)
            told, moved = renamed_anew(table, names), [0] * (2 * many)
            for x in range(2 * many):
                moved[names[x]] = names[row[x]]
            moved = tuple(moved)
            self.assertTrue(is_twin_map(told, moved))
            lesser = [x for x in range(2 * many) if x < moved[x]]
            self.assertEqual(web_of_twins(told, moved), web_of(many, {
                (x, y): 1 if told[lesser[x]][lesser[y]] else -1
                for x, y in combinations(range(many), 2)
                if told[lesser[x]][lesser[y]] or told[lesser[x]][moved[lesser[y]]]
            }))

    def test_any_value(self):
        for table in (doubled(TRI), doubled(empty_web(2)), doubled(full_web(2, -1)), web_of(3, {(0, 1): 1})):
            good = [row for row in permutations(range(len(table))) if is_twin_map_anew(table, row)]
            for value in many_values() + [value for row in good for value in spoilt(row)]:
                kept = repr(value)
                self.assertIs(is_twin_map(table, value), exactly(value, good), value)
                self.assertEqual(repr(value), kept)
                if not exactly(value, good):
                    with self.assertRaises(InvalidRow):
                        web_of_twins(table, value)

    def test_each_condition(self):
        row = (2, 3, 0, 1)
        for pairs, told in (({}, True), ({(0, 1): 1, (2, 3): 1}, True), ({(0, 3): 1, (1, 2): 1}, True),
                            ({(0, 2): 1}, False), ({(0, 2): 1, (1, 3): 1}, False), ({(0, 1): 1}, False),
                            ({(0, 1): 1, (2, 3): 1, (0, 3): 1, (1, 2): 1}, False)):
            self.assertIs(is_twin_map(web_of(4, pairs), row), told)
        for row in ((0, 1, 2, 3), (1, 2, 3, 0), (1, 0, 2, 3), (2, 2, 0, 0)):
            self.assertIs(is_twin_map(web_of(4, {}), row), False)

    def test_lists_are_new(self):
        table = doubled(TRI)
        twin_maps(table).clear()
        self.assertEqual(twin_maps(table), [(3, 4, 5, 0, 1, 2)])


class Facts(unittest.TestCase):
    def webs(self, seed):
        return list(small_webs()) + some_webs(seed) + great_webs(seed)

    def test_l1_pieces(self):
        for web in self.webs(781):
            many, told = len(web), sheet_pieces(web)
            calm = calm_pieces_by_spreading(web)
            self.assertEqual(len(told), len(pieces_by_ties(web)) + len(calm))
            for piece in pieces_by_ties(web):
                above = [one for one in told if {place % many for place in one} & set(piece)]
                self.assertEqual(len(above), 2 if piece in calm else 1)
                self.assertEqual({place % many for one in above for place in one}, set(piece))
                if piece in calm:
                    for one in above:
                        half = tuple(piece.index(place) for place in one if place < many)
                        self.assertTrue(is_camp(inner_anew(web, piece), half))
                        self.assertIn(half, camps(inner_anew(web, piece)))

    def test_l2_ends_of_lifted_walks(self):
        draw = Draw(782)
        for web in self.webs(782)[::3]:
            for number in (0, 1, 4, 9):
                walk = drawn_walk(draw, web, number)
                for twin in (0, 1):
                    end = lifted(web, walk, walk[0] + twin * len(web))[-1]
                    same = (walk_sign(web, walk) == 1) == (twin == 0)
                    self.assertEqual(end, walk[-1] if same else walk[-1] + len(web))

    def test_l3_turned(self):
        draw = Draw(783)
        for web in self.webs(783)[::2]:
            many, lot = len(web), draw.lot(len(web))
            row = [(x + many) % (2 * many) if x % many in lot else x for x in range(2 * many)]
            self.assertEqual(doubled(turned(web, lot)), renamed_anew(doubled(web), row))

    def test_l4_shortest_bad_round(self):
        for web in list(small_webs()) + some_webs(784):
            back = [step_table(web, place)[place][1] for place in range(len(web))]
            bad = [len(ring) for ring in rounds_anew(web) if sign_anew(web, ring) == -1]
            self.assertEqual(min([steps for steps in back if steps is not None], default=None), min(bad, default=None))

    def test_l5_trees(self):
        for web in self.webs(785):
            joined = len(pieces_by_ties(web)) == 1
            if joined and not calm_pieces_by_spreading(web):
                self.assertEqual(2 * doubled_tree_count(web), tree_count(web) * free_weight(web))
            else:
                self.assertEqual(doubled_tree_count(web), 0)

    def test_l6_walks_of_the_doubled_web(self):
        for web in list(small_webs())[::11] + some_webs(786)[::4] + [full_web(10, -1)]:
            many, table = len(web), doubled_anew(web)
            friends = tuple(tuple(abs(sign) for sign in row) for row in web)
            for number in (0, 1, 2, 3) if many < 8 else (2, 60):
                counts = [1] + [0] * (2 * many - 1)
                plain = [1] + [0] * (many - 1)
                for _ in range(number):
                    counts = [sum(counts[y] for y in range(2 * many) if row[y]) for row in table]
                    plain = [sum(plain[y] for y in range(many) if row[y]) for row in friends]
                for goal in range(many):
                    told = walk_counts(web, 0, goal, number)
                    self.assertEqual(told, (counts[goal], counts[goal + many]))
                    self.assertEqual(sum(told), plain[goal])

    def test_l7_renamed_by_rows_that_keep_twins(self):
        for many in (1, 2, 3):
            webs = [web for web in small_webs(3) if len(web) == many]
            rows = []
            for names in permutations(range(many)):
                for sides in product((0, many), repeat=many):
                    above = [name + side for name, side in zip(names, sides)]
                    rows.append(above + [(place + many) % (2 * many) for place in above])
            for web, other in product(webs[::2], webs):
                led = any(renamed_anew(doubled(web), row) == doubled(other) for row in rows)
                several = [renamed_anew(web, row) for row in permutations(range(many))]
                kin = any(same_ties_anew(one, other) and leading_anew(one, other) for one in several)
                self.assertIs(led, bool(kin))


if __name__ == "__main__":
    unittest.main()
