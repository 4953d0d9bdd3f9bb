import unittest
from itertools import combinations

from signrounds.alike import are_alike, form, product
from signrounds.classes import (
    changed_to, class_count, class_gap, class_number, class_size, even_members, foe_counts, member_number, nth_class,
    nth_member,
)
from signrounds.errors import NotAlike
from tests.counts import class_anew, form_anew, joined_anew, leading_anew, number_anew, outer_anew, pieces_anew
from tests.samples import (
    Draw, all_ties_webs, circle_web, drawn_webs, empty_web, full_web, pairs_tied, signings, small_webs,
)


def foes_of(web):
    return sum(row.count(-1) for row in web) // 2


def is_even(web):
    return all(sum(sign == -1 for sign in row) % 2 == 0 for row in web)


def resigned(web, pairs):
    """The web with the signs of these ties changed."""
    rows = [list(row) for row in web]
    for x, y in pairs:
        rows[x][y] = rows[y][x] = -rows[x][y]
    return tuple(map(tuple, rows))


def change_anew(web, other):
    """The first set of ties, fewest first, whose change makes the web alike with the other one."""
    members = set(class_anew(other))
    for size in range(len(pairs_tied(web)) + 1):
        for some in combinations(pairs_tied(web), size):
            if resigned(web, some) in members:
                return some


class Numbers(unittest.TestCase):
    def test_classes_on_all_ties(self):
        for calm in all_ties_webs(4):
            forms = sorted({form_anew(one) for one in signings(calm)}, key=number_anew)
            self.assertEqual([number_anew(one) for one in forms], list(range(len(forms))))
            for web in list(signings(calm))[::5]:
                self.assertEqual(class_count(web), len(forms))
                self.assertEqual(class_number(web), number_anew(web))
                self.assertEqual([nth_class(web, at) for at in range(len(forms) + 2)], forms + [None, None])
                self.assertIsNone(nth_class(web, 10**89))

    def test_members(self):
        for web in list(small_webs()) + list(drawn_webs(81, 4, 5, 7)):
            members = class_anew(web)
            self.assertEqual(class_size(web), len(members))
            self.assertEqual(member_number(web), members.index(web))
            for number in {0, 1, len(members) // 2, len(members) - 1} & set(range(len(members))):
                self.assertEqual(nth_member(web, number), members[number])
            for number in (len(members), len(members) + 1, 10**89):
                self.assertIsNone(nth_member(web, number))

    def test_all_members_in_sequence(self):
        for web in list(small_webs(3)) + [full_web(4, -1), circle_web(5, True)]:
            members = class_anew(web)
            self.assertEqual([nth_member(web, at) for at in range(len(members))], members)

    def test_ten_places(self):
        for web in (full_web(10, -1), circle_web(10, True), empty_web(10), *drawn_webs(82, 4, 10, 10)):
            outer = outer_anew(web)
            last = 2 ** len(outer) - 1
            self.assertEqual(class_count(web), last + 1)
            self.assertEqual(class_number(nth_class(web, last)), last)
            self.assertTrue(all(nth_class(web, last)[x][y] == -1 for x, y in outer))
            self.assertIsNone(nth_class(web, last + 1))
            members = class_anew(web)
            self.assertEqual(class_size(web), len(members))
            self.assertEqual([nth_member(web, len(members) - 1), nth_member(web, len(members))], [members[-1], None])
            self.assertEqual(member_number(web), members.index(web))

    def test_no_outer_ties(self):
        for web in (empty_web(1), empty_web(10), full_web(2, -1), ((0, -1, 0), (-1, 0, 1), (0, 1, 0))):
            calm = tuple(tuple(map(abs, row)) for row in web)
            self.assertEqual([class_count(web), class_number(web), nth_class(web, 0), nth_class(web, 1)],
                             [1, 0, calm, None])
        self.assertEqual([class_size(empty_web(10)), member_number(empty_web(10)), nth_member(empty_web(10), 1)],
                         [1, 0, None])

    def test_foe_counts_and_even_members(self):
        for web in list(small_webs()) + list(drawn_webs(83)) + [full_web(10, -1), empty_web(10)]:
            members = class_anew(web)
            counts = [0] * (len(pairs_tied(web)) + 1)
            for member in members:
                counts[foes_of(member)] += 1
            self.assertEqual(foe_counts(web), tuple(counts))
            self.assertEqual(even_members(web), [member for member in members if is_even(member)])
        self.assertEqual([foe_counts(empty_web(1)), even_members(empty_web(1))], [(1,), [empty_web(1)]])


class Changes(unittest.TestCase):
    def test_changed_to(self):
        draw = Draw(84)
        for calm in all_ties_webs(4):
            webs = list(signings(calm))
            for _ in range(4):
                web, other = draw.one(webs), draw.one(webs)
                told = change_anew(web, other)
                self.assertEqual(changed_to(web, other), told)
                self.assertEqual(class_gap(web, other), len(told))
        for web in drawn_webs(84, 3, 5, 6):
            for other in (draw.resigned(web), web):
                told = change_anew(web, other)
                self.assertEqual(changed_to(web, other), told)
                self.assertEqual(class_gap(web, other), len(told))

    def test_ten_places(self):
        draw = Draw(85)
        for web in (full_web(10, 1), *drawn_webs(85, 4, 9, 10)):
            other = draw.resigned(web)
            told = changed_to(web, other)
            self.assertTrue(are_alike(resigned(web, told), other))
            self.assertEqual(class_gap(web, other), len(told))
            both = tuple(tuple(a * b for a, b in zip(x, y)) for x, y in zip(web, other))
            sets = [tuple(pair for pair in pairs_tied(one) if one[pair[0]][pair[1]] == -1) for one in class_anew(both)]
            self.assertEqual(told, min(sets, key=lambda one: (len(one), one)))
        self.assertEqual(class_gap(full_web(10, 1), full_web(10, -1)), 20)

    def test_other_ties(self):
        for web, other in ((empty_web(1), empty_web(2)), (circle_web(4, True), full_web(4, 1)),
                           (full_web(10, 1), full_web(9, 1)), (empty_web(3), circle_web(3, False))):
            for pair in ((web, other), (other, web)):
                for function in (changed_to, class_gap):
                    with self.assertRaises(NotAlike) as caught:
                        function(*pair)
                    self.assertEqual(caught.exception.ring, ())


class Facts(unittest.TestCase):
    def test_d1_counts_and_numbers(self):
        draw = Draw(86)
        for web in list(small_webs()) + list(drawn_webs(86)):
            self.assertEqual(class_count(web) * class_size(web), 2 ** len(pairs_tied(web)))
            self.assertEqual(class_size(web), 2 ** (len(web) - len(pieces_anew(web))))
            number = draw.below(class_count(web))
            self.assertEqual(class_number(nth_class(web, number)), number)
            other = draw.resigned(web)
            self.assertIs(are_alike(web, other), class_number(web) == class_number(other))
            self.assertEqual(nth_class(web, class_number(web)), form(web))

    def test_d2_members(self):
        draw = Draw(87)
        for web in list(small_webs()) + list(drawn_webs(87)):
            self.assertEqual(nth_member(web, member_number(web)), web)
            number = draw.below(class_size(web))
            member = nth_member(web, number)
            self.assertEqual(member_number(member), number)
            self.assertEqual(form(member), form(web))

    def test_d3_foe_counts(self):
        for web in list(small_webs()) + list(drawn_webs(88)):
            told = foe_counts(web)
            self.assertEqual(sum(told), class_size(web))
            if all(sum(map(abs, row)) % 2 == 0 for row in web):
                self.assertEqual(len({at % 2 for at, count in enumerate(told) if count}), 1)
        for calm in all_ties_webs(4):
            partings = {}
            firsts = [piece[0] for piece in pieces_anew(calm)]
            for at in range(16):
                lot = [place for place in range(4) if at >> place & 1]
                if not set(lot) & set(firsts):
                    cut = sum((x in lot) != (y in lot) for x, y in pairs_tied(calm))
                    partings[cut] = partings.get(cut, 0) + 1
            self.assertEqual(foe_counts(calm), tuple(partings.get(at, 0) for at in range(len(pairs_tied(calm)) + 1)))
            sums = [foe_counts(nth_class(calm, at)) for at in range(class_count(calm))]
            many = len(pairs_tied(calm))
            sets = [len(list(combinations(range(many), size))) for size in range(many + 1)]
            self.assertEqual([sum(row) for row in zip(*sums)], sets)

    def test_d4_even_webs(self):
        for calm in list(all_ties_webs(4)) + [full_web(5, 1), circle_web(5, True), *drawn_webs(89, 3, 5, 5)]:
            counts = [len(even_members(nth_class(calm, at))) for at in range(class_count(calm))]
            self.assertEqual(sum(counts), 2 ** len(outer_anew(calm)))
            self.assertEqual(sum(counts), sum(is_even(one) for one in signings(calm)))
            some = {count for count in counts if count}
            self.assertEqual(len(some), 1)
            self.assertIn(some.pop(), (1, 2, 4, 8, 16, 32))
            if len(pieces_anew(calm)) == 1:
                everywhere = tuple(range(len(calm)))
                trees = sum(joined_anew(calm, everywhere, list(some))
                            for some in combinations(pairs_tied(calm), len(calm) - 1))
                self.assertIs(set(counts) == {1}, trees % 2 == 1)

    def test_d5_gaps(self):
        draw = Draw(90)
        for web in list(small_webs())[::3] + list(drawn_webs(90)):
            other, third = draw.resigned(web), draw.resigned(web)
            gap = class_gap(web, other)
            self.assertEqual(gap, min(map(foes_of, class_anew(product(web, other)))))
            self.assertEqual(gap, class_gap(other, web))
            self.assertIs(gap == 0, bool(leading_anew(web, other)))
            self.assertLessEqual(gap, class_gap(web, third) + class_gap(third, other))
            self.assertEqual(changed_to(web, web), ())


if __name__ == "__main__":
    unittest.main()
