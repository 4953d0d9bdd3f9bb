import unittest
from itertools import combinations, permutations, product

from signrounds.choices import (
    choice_by, gate_row, gates, is_choice, is_gate_row, is_standing_row, is_stop, pair_count, standing_choices,
    standing_count, standing_row, stands, stop, turned_choice,
)
from signrounds.dyes import dyeing_count, first_dyeing, least_width, polynomial
from signrounds.errors import InvalidChoice, InvalidRow, NotStanding, TooMany
from signrounds.webs import beside, turned
from tests.calls import many_values
from tests.counts import calm_pieces_by_spreading, exactly
from tests.samples import (
    Draw, circle_web, drawn_webs, empty_web, full_web, lots_of, pairs_tied, small_webs, spoilt, web_of,
)


def ways(web):
    """All choices, ascending."""
    return list(product((-1, 1), repeat=len(pairs_tied(web))))


def gap(web, tie, row):
    """What must be above 0 for the way 1, and below 0 for the way -1."""
    x, y = tie
    return row[x] - row[y] if web[x][y] == 1 else row[x] + row[y]


def keeps_anew(web, choice, row):
    return all(way * gap(web, tie, row) > 0 for tie, way in zip(pairs_tied(web), choice))


def signed_rows(many):
    """All rows that have each of the sizes 1 to many once."""
    for row in permutations(range(1, many + 1)):
        for signs in product((1, -1), repeat=many):
            yield tuple(size * sign for size, sign in zip(row, signs))


def kept_by_rows(web):
    """For each choice that stands the rows of sizes 1 to n that keep it."""
    told = {}
    for row in signed_rows(len(web)):
        gaps = [gap(web, tie, row) for tie in pairs_tied(web)]
        if 0 not in gaps:
            told.setdefault(tuple(1 if one > 0 else -1 for one in gaps), []).append(row)
    return told


def is_stop_anew(web, choice, weights):
    if len(weights) != len(choice) or min(weights, default=0) < 0 or not any(weights):
        return False
    sums = [0] * len(web)
    for (x, y), way, weight in zip(pairs_tied(web), choice, weights):
        sums[x] += weight * way
        sums[y] += weight * (-way if web[x][y] == 1 else way)
    return not any(sums)


def other_way_anew(choice, at):
    return tuple(-way if index == at else way for index, way in enumerate(choice))


def some_webs(seed):
    """Webs of at most ten ties."""
    told = [web for web in drawn_webs(seed, 3, 5, 6) if len(pairs_tied(web)) <= 8]
    return told + [circle_web(5, True), circle_web(6, False), beside(circle_web(3, True), full_web(2, 1)),
                   web_of(5, {(0, 1): -1, (0, 2): 1, (1, 2): 1, (2, 3): 1, (3, 4): -1})]


def great_webs(seed):
    calm = turned(full_web(10, 1), (1, 2, 5, 9))
    return list(drawn_webs(seed, 4, 8, 10)) + [
        calm, full_web(10, 1), full_web(10, -1), empty_web(10), circle_web(10, True), circle_web(9, False),
        beside(full_web(5, -1), circle_web(5, True))]


def some_choices(draw, web, many=4):
    """Choices of rows, which stand, and drawn ones."""
    told = []
    for _ in range(many):
        row = tuple(size * draw.one((1, -1)) for size in draw.row(len(web)))
        row = tuple(number + (1 if number >= 0 else -1) for number in row)
        told.append(choice_by(web, row))
        told.append(tuple(draw.one((1, -1)) for _ in pairs_tied(web)))
    return told


class Standing(unittest.TestCase):
    def check(self, web, choices):
        kept = kept_by_rows(web)
        for choice in choices:
            self.assertIs(is_choice(web, choice), True)
            self.assertIs(stands(web, choice), choice in kept)
            told = stop(web, choice)
            if choice in kept:
                self.assertIsNone(told)
                self.assertTrue(exactly(standing_row(web, choice), kept[choice]))
            else:
                self.check_stop(web, choice, told)
                with self.assertRaises(NotStanding) as caught:
                    standing_row(web, choice)
                self.check_stop(web, choice, caught.exception.weights)

    def check_stop(self, web, choice, weights):
        self.assertIsInstance(weights, tuple)
        self.assertTrue(all(type(weight) is int and 0 <= weight <= 2 for weight in weights))
        self.assertTrue(is_stop_anew(web, choice, weights))
        self.assertIs(is_stop(web, choice, weights), True)

    def test_of_small_webs(self):
        for web in list(small_webs(3)) + list(small_webs())[31::6]:
            self.check(web, ways(web))

    def test_of_greater_webs(self):
        for web in some_webs(721):
            if len(web) == 5:
                self.check(web, ways(web)[::3])

    def test_rows_of_any_numbers_keep_no_other_choice(self):
        for web in list(small_webs(3)) + list(small_webs())[31::30]:
            kept = kept_by_rows(web)
            for row in product(range(-3, 4), repeat=len(web)):
                gaps = [gap(web, tie, row) for tie in pairs_tied(web)]
                if 0 in gaps:
                    with self.assertRaises(InvalidRow):
                        choice_by(web, row)
                else:
                    choice = tuple(1 if one > 0 else -1 for one in gaps)
                    self.assertEqual(choice_by(web, row), choice)
                    self.assertIn(choice, kept)

    def test_of_ten_places(self):
        draw = Draw(722)
        for web in great_webs(722):
            for choice in some_choices(draw, web):
                if stands(web, choice):
                    row = standing_row(web, choice)
                    self.assertTrue(keeps_anew(web, choice, row) and is_standing_row(web, choice, row))
                    self.assertEqual(sorted(map(abs, row)), list(range(1, len(web) + 1)))
                    self.assertIsNone(stop(web, choice))
                else:
                    self.check_stop(web, choice, stop(web, choice))
                    with self.assertRaises(NotStanding) as caught:
                        standing_row(web, choice)
                    self.check_stop(web, choice, caught.exception.weights)

    def test_a_stop_may_need_a_two(self):
        # Two bad rounds and a way between them: the way is gone twice.
        web = web_of(7, {(0, 1): -1, (0, 2): 1, (1, 2): 1, (2, 3): 1, (3, 4): -1, (4, 5): 1, (4, 6): 1, (5, 6): -1})
        found = [stop(web, choice) for choice in ways(web) if not stands(web, choice)]
        self.assertTrue(found)
        for told in found:
            self.assertEqual(told, (1, 1, 1, 2, 2, 1, 1, 1))

    def test_sizes_with_either_sign(self):
        web = full_web(3, -1)
        self.assertTrue(is_standing_row(web, (1, 1, 1), (1, 2, 3)))
        self.assertTrue(is_standing_row(web, (-1, -1, -1), (-3, -1, -2)))
        self.assertTrue(is_standing_row(web, (-1, 1, 1), (-2, 1, 3)))
        self.assertFalse(is_standing_row(web, (1, 1, 1), (1, 2, 4)))
        self.assertFalse(is_standing_row(web, (1, 1, 1), (2, 3, 3)))
        self.assertFalse(is_standing_row(web, (1, 1, 1), (0, 1, 2)))

    def test_kept_by_dyeings(self):
        for web in list(small_webs())[::3] + great_webs(723):
            for nonzero in (False, True):
                row = first_dyeing(web, least_width(web, nonzero), nonzero)
                told = choice_by(web, row)
                self.assertTrue(is_choice(web, told) and keeps_anew(web, told, row) and stands(web, told))
        self.assertEqual(choice_by(full_web(3, -1), (10**89, 10**89, -(10**89) + 1)), (1, 1, 1))
        self.assertEqual(choice_by(full_web(2, 1), (-(10**89), 10**89)), (-1,))
        for row in (None, (), (1, 2), [1, 2, 3], (1, 2, 1), (1, 2, True), (1, 2, None), (1, 2, 3, 4), "123", 0):
            with self.assertRaises(InvalidRow):
                choice_by(full_web(3, 1), row)

    def test_counts_and_lists(self):
        for web in list(small_webs()) + some_webs(724):
            if len(web) < 6:
                kept = kept_by_rows(web)
                self.assertEqual(standing_count(web), len(kept))
                self.assertEqual(standing_choices(web), sorted(kept))
            else:
                self.assertEqual(len(standing_choices(web)), standing_count(web))
        factorial = 1
        for many in range(1, 11):
            factorial *= many
            self.assertEqual(standing_count(full_web(many, 1)), factorial)
            self.assertEqual(standing_count(empty_web(many)), 1)
            self.assertEqual(standing_choices(empty_web(many)), [()])
        for many in range(3, 11):
            self.assertEqual(standing_count(circle_web(many, True)), 2**many)
            self.assertEqual(standing_count(circle_web(many, False)), 2**many - 2)

    def test_ten_and_eleven_ties(self):
        ten = circle_web(10, True)
        self.assertEqual(len(standing_choices(ten)), 1024)
        self.assertEqual(len(standing_choices(full_web(5, 1))), 120)
        eleven = [list(row) for row in ten]
        eleven[0][5] = eleven[5][0] = 1
        for web in (tuple(map(tuple, eleven)), full_web(6, 1), full_web(10, -1)):
            with self.assertRaises(TooMany) as caught:
                standing_choices(web)
            self.assertEqual(caught.exception.count, 10)
        standing_choices(ten).clear()
        self.assertEqual(len(standing_choices(ten)), 1024)

    def test_without_ties(self):
        web = empty_web(3)
        self.assertEqual([is_choice(web, ()), stands(web, ()), stop(web, ()), gates(web, ()), gate_row(web, (), ())],
                         [True, True, None, [], []])
        self.assertEqual(sorted(map(abs, standing_row(web, ()))), [1, 2, 3])
        self.assertEqual([is_stop(web, (), ()), is_gate_row(web, (), (), []), choice_by(web, (5, 5, 0))],
                         [False, True, ()])
        self.assertEqual([standing_row(empty_web(1), ()) in ((1,), (-1,)), pair_count(web, 2), pair_count(web, 2, True),
                          pair_count(web, 0, True)], [True, 125, 64, 0])


class AnyValue(unittest.TestCase):
    WEBS = (full_web(3, 1), circle_web(3, True), web_of(4, {(0, 1): -1, (1, 2): 1, (2, 3): -1}), empty_web(2))

    def test_choices(self):
        for web in self.WEBS + (full_web(4, -1),):
            good = ways(web)
            for value in many_values() + [value for one in good[::5] for value in spoilt(one)] + [list(good[0])]:
                kept = repr(value)
                self.assertIs(is_choice(web, value), exactly(value, good))
                self.assertEqual(repr(value), kept)

    def test_standing_rows(self):
        for web in self.WEBS:
            rows = kept_by_rows(web)
            for choice in ways(web):
                good = rows.get(choice, [])
                for row in product(range(-len(web) - 1, len(web) + 2), repeat=len(web)) if len(web) < 4 else ():
                    self.assertIs(is_standing_row(web, choice, row), row in good)
                several = [value for row in good[:2] for value in spoilt(row)]
                for value in many_values() + several + list(signed_rows(len(web)))[::5]:
                    self.assertIs(is_standing_row(web, choice, value), exactly(value, good), value)

    def test_stops(self):
        for web in self.WEBS + (circle_web(4, True),):
            for choice in ways(web):
                good = []
                for weights in product(range(4), repeat=len(choice)):
                    if is_stop_anew(web, choice, weights):
                        good.append(weights)
                    self.assertIs(is_stop(web, choice, weights), is_stop_anew(web, choice, weights))
                several = [value for one in good[:2] for value in spoilt(one)]
                for value in many_values() + several:
                    told = exactly(value, good)
                    if isinstance(value, tuple) and all(type(one) is int for one in value):
                        told = is_stop_anew(web, choice, value)
                    self.assertIs(is_stop(web, choice, value), told, value)
        web = full_web(3, 1)
        self.assertTrue(is_stop(web, (1, -1, 1), (10**89,) * 3))
        self.assertFalse(is_stop(web, (1, -1, 1), (-1, -1, -1)))
        self.assertFalse(is_stop(web, (1, -1, 1), (0, 0, 0)))

    def test_gate_rows(self):
        for web in self.WEBS[:3]:
            stand = kept_by_rows(web)
            several = pairs_tied(web)
            for one, other in product(ways(web), repeat=2):
                good = []
                if one in stand and other in stand:
                    unlike = [at for at in range(len(one)) if one[at] != other[at]]
                    for row in permutations(unlike):
                        way, fine = one, True
                        for at in row:
                            way = other_way_anew(way, at)
                            fine = fine and way in stand
                        if fine:
                            good.append([several[at] for at in row])
                    self.assertTrue(exactly(gate_row(web, one, other), good))
                tried = [list(row) for many in range(4) for row in product(several, repeat=many)]
                for row in tried:
                    self.assertIs(is_gate_row(web, one, other, row), row in good)
                    self.assertIs(is_gate_row(web, one, other, tuple(row)), False)
        web = self.WEBS[2]
        one, other = ways(web)[0], ways(web)[-1]
        good = [[pairs_tied(web)[at] for at in row] for row in permutations(range(3))]
        for value in many_values() + [value for row in good for value in spoilt(row)]:
            kept = repr(value)
            self.assertIs(is_gate_row(web, one, other, value), exactly(value, good), value)
            self.assertEqual(repr(value), kept)

    def test_of_a_choice_that_does_not_stand(self):
        web = full_web(3, 1)
        down, round_about = (1, 1, 1), (1, -1, 1)
        for one, other in ((down, round_about), (round_about, down), (round_about, round_about)):
            for value in ([], [(0, 2)], None, ((0, 2),)):
                self.assertIs(is_gate_row(web, one, other, value), False)
            with self.assertRaises(NotStanding) as caught:
                gate_row(web, one, other)
            wrong = one if one == round_about else other
            self.assertTrue(is_stop_anew(web, wrong, caught.exception.weights))
        with self.assertRaises(NotStanding) as caught:
            gates(web, round_about)
        self.assertEqual(caught.exception.weights, (1, 1, 1))
        self.assertIs(is_gate_row(web, down, down, []), True)
        self.assertEqual(gate_row(web, down, down), [])


class Errors(unittest.TestCase):
    def test_the_stop_of_the_choice_comes_ahead_of_that_of_the_other_one(self):
        web = beside(full_web(3, 1), full_web(3, 1))
        first, second = (1, -1, 1, 1, 1, 1), (1, 1, 1, -1, 1, -1)
        for one, other, weights in ((first, second, (1, 1, 1, 0, 0, 0)), (second, first, (0, 0, 0, 1, 1, 1))):
            with self.assertRaises(NotStanding) as caught:
                gate_row(web, one, other)
            self.assertEqual(caught.exception.weights, weights)

    def test_invalid_choices_come_ahead(self):
        web = full_web(3, 1)
        round_about = (1, -1, 1)
        for one, other in ((round_about, (1, 1)), ((1, 1), round_about), (round_about, None)):
            for function in (gate_row, lambda *values: is_gate_row(*values, [])):
                with self.assertRaises(InvalidChoice):
                    function(web, one, other)

    def test_lists_are_new_at_each_call(self):
        web = full_web(3, 1)
        for told in (lambda: gates(web, (1, 1, 1)), lambda: gate_row(web, (1, 1, 1), (-1, -1, -1))):
            kept = list(told())
            told().clear()
            self.assertEqual(told(), kept)
            self.assertTrue(kept)


class Turned(unittest.TestCase):
    def test_by_rows(self):
        for web in list(small_webs(3)) + list(small_webs())[31::20]:
            kept = kept_by_rows(web)
            for lot in lots_of(len(web)):
                other = turned(web, lot)
                for choice in ways(web)[::3]:
                    told = turned_choice(web, choice, lot)
                    self.assertIs(is_choice(other, told), True)
                    self.assertEqual(turned_choice(other, told, lot), choice)
                    for row in kept.get(choice, [])[:5]:
                        moved = tuple(-number if place in lot else number for place, number in enumerate(row))
                        self.assertTrue(keeps_anew(other, told, moved))

    def test_by_lesser_ends(self):
        web = full_web(4, 1)
        choice = (1, -1, 1, 1, -1, 1)
        self.assertEqual(turned_choice(web, choice, (0,)), (-1, 1, -1, 1, -1, 1))
        self.assertEqual(turned_choice(web, choice, (3,)), choice)
        self.assertEqual(turned_choice(web, choice, (1, 2)), (1, -1, 1, -1, 1, -1))
        self.assertEqual(turned_choice(full_web(3, 1), (1, -1, 1), (1,)), (1, -1, -1))


class Gates(unittest.TestCase):
    def test_of_small_webs(self):
        for web in list(small_webs(3)) + list(small_webs())[31::7]:
            kept = kept_by_rows(web)
            for choice in list(kept)[::2]:
                told = [tie for at, tie in enumerate(pairs_tied(web)) if other_way_anew(choice, at) in kept]
                self.assertEqual(gates(web, choice), told)

    def test_gate_rows_of_ten_places(self):
        draw = Draw(731)
        for web in great_webs(731):
            choices = [choice for choice in some_choices(draw, web, 2) if stands(web, choice)]
            for one, other in ((choices[0], choices[-1]), (choices[-1], choices[0])):
                row = gate_row(web, one, other)
                self.assertIsInstance(row, list)
                self.assertTrue(is_gate_row(web, one, other, row))
                several, way = pairs_tied(web), one
                for tie in row:
                    way = other_way_anew(way, several.index(tie))
                    self.assertTrue(keeps_anew(web, way, standing_row(web, way)))
                self.assertEqual(way, other)
                self.assertEqual(sorted(row), [tie for at, tie in enumerate(several) if one[at] != other[at]])
                if row:
                    self.assertFalse(is_gate_row(web, one, other, row[1:]))
                    self.assertFalse(is_gate_row(web, one, other, row + row[:1]))

    def test_not_each_sequence_is_a_gate_row(self):
        web = full_web(3, 1)
        self.assertIs(is_gate_row(web, (1, 1, 1), (-1, -1, -1), [(0, 1), (0, 2), (1, 2)]), True)
        self.assertIs(is_gate_row(web, (1, 1, 1), (-1, -1, -1), [(0, 2), (0, 1), (1, 2)]), False)
        self.assertIs(is_gate_row(web, (1, 1, 1), (-1, -1, -1), [(0, 1), (1, 2), (0, 2)]), False)


class Pairs(unittest.TestCase):
    def test_counted_anew(self):
        for web in list(small_webs(3)) + list(small_webs())[31::12]:
            kept = list(kept_by_rows(web))
            for nonzero in (False, True):
                for count in (0, 1, 2) if len(web) < 4 else (0, 1):
                    told = 0
                    for row in product(range(-count, count + 1), repeat=len(web)):
                        if nonzero and 0 in row:
                            continue
                        gaps = [gap(web, tie, row) for tie in pairs_tied(web)]
                        told += sum(all(way * one >= 0 for way, one in zip(choice, gaps)) for choice in kept)
                    self.assertEqual(pair_count(web, count, nonzero), told)

    def test_by_position_and_by_name(self):
        web = full_web(3, -1)
        self.assertEqual(pair_count(web, 2, True), pair_count(nonzero=True, count=2, web=web))
        self.assertNotEqual(pair_count(web, 2, True), pair_count(web, 2))
        self.assertEqual(pair_count(web, 1000), pair_count(web, 1000, False))


class Facts(unittest.TestCase):
    def test_k1_a_row_or_a_stop(self):
        draw = Draw(741)
        for web in list(small_webs())[::8] + some_webs(741) + great_webs(741):
            for choice in some_choices(draw, web, 3):
                self.assertIs(stands(web, choice), stop(web, choice) is None)

    def test_k1_no_stop_of_a_choice_that_stands(self):
        for web in list(small_webs())[::9]:
            if len(pairs_tied(web)) < 6:
                for choice in kept_by_rows(web):
                    for weights in product(range(3), repeat=len(choice)):
                        self.assertFalse(is_stop(web, choice, weights))

    def test_k2_how_many(self):
        for web in list(small_webs())[::4] + some_webs(742) + great_webs(742):
            sign = (-1) ** len(web)
            whole, without = polynomial(web), polynomial(web, nonzero=True)
            self.assertEqual(standing_count(web), sign * sum(one * (-1) ** at for at, one in enumerate(whole)))
            for count in (0, 1, 2, 7, 1000):
                point = -(2 * count + 1)
                self.assertEqual(pair_count(web, count), sign * sum(one * point**at for at, one in enumerate(whole)))
                told = sign * sum(one * (-2 * count) ** at for at, one in enumerate(without))
                self.assertEqual(pair_count(web, count, nonzero=True), told)
            self.assertEqual(pair_count(web, 0), standing_count(web))
            self.assertGreaterEqual(pair_count(web, 3), dyeing_count(web, 3))

    def test_k3_all_ways_changed_and_turned(self):
        draw = Draw(743)
        for web in list(small_webs())[::8] + some_webs(743) + great_webs(743):
            for choice in some_choices(draw, web, 2):
                told = stands(web, choice)
                self.assertIs(stands(web, tuple(-way for way in choice)), told)
                lot = draw.lot(len(web))
                other, moved = turned(web, lot), turned_choice(web, choice, lot)
                self.assertIs(stands(other, moved), told)
                self.assertEqual(turned_choice(other, moved, lot), choice)

    def test_k4_gates(self):
        for web in list(small_webs())[::5] + some_webs(744):
            several = standing_choices(web)
            least = len(web) - len(calm_pieces_by_spreading(web))
            for choice in several[:12]:
                self.assertGreaterEqual(len(gates(web, choice)), least)
            for one, other in list(combinations(several[:40], 2))[::29]:
                unlike = [tie for at, tie in enumerate(pairs_tied(web)) if one[at] != other[at]]
                self.assertEqual(sorted(gate_row(web, one, other)), unlike)

    def test_k4_whichever_gates_one_goes_by(self):
        draw = Draw(745)
        for web in list(small_webs())[::9] + great_webs(745)[::3]:
            choices = [choice for choice in some_choices(draw, web, 2) if stands(web, choice)]
            way, goal, row = choices[0], choices[-1], []
            several = pairs_tied(web)
            while way != goal:
                open_ties = [tie for tie in gates(web, way) if way[several.index(tie)] != goal[several.index(tie)]]
                self.assertTrue(open_ties)
                row.append(draw.one(open_ties))
                way = other_way_anew(way, several.index(row[-1]))
            self.assertTrue(is_gate_row(web, choices[0], goal, row))


if __name__ == "__main__":
    unittest.main()
