import unittest
from itertools import permutations

from signrounds.class_numbers import kind_count, least_kin
from signrounds.errors import TooMany
from tests.counts import form_anew, number_anew, outer_anew, renamed_anew, same_ties_anew
from tests.samples import (
    Draw, all_ties_webs, circle_web, drawn_webs, empty_web, full_web, signings, small_webs, web_of,
)


def rows_anew(web):
    """The rows by which the web renamed has the same ties."""
    return [row for row in permutations(range(len(web))) if same_ties_anew(renamed_anew(web, row), web)]


def least_anew(web):
    return min((form_anew(renamed_anew(web, row)) for row in rows_anew(web)), key=number_anew)


def web_by_number(web, number):
    """A web of the class with this number."""
    outer = outer_anew(web)
    signs = {(x, y): 1 for x in range(len(web)) for y in range(x + 1, len(web)) if web[x][y]}
    signs.update({tie: -1 if number >> at & 1 else 1 for at, tie in enumerate(outer[::-1])})
    return web_of(len(web), signs)


class Kinds(unittest.TestCase):
    def test_least_kin(self):
        draw = Draw(101)
        for web in list(small_webs(3)) + list(small_webs())[::11]:
            self.assertEqual(least_kin(web), least_anew(web))
            other = draw.resigned(web)
            self.assertEqual(least_kin(other), least_anew(other))
        for web in list(drawn_webs(101, 4, 5, 5)) + list(drawn_webs(102, 2, 6, 6)) + [circle_web(6, True)]:
            self.assertEqual(least_kin(web), least_anew(web))

    def test_kind_count(self):
        for calm in all_ties_webs(4):
            told = kind_count(calm)
            self.assertEqual(told, len({least_anew(one) for one in {form_anew(one) for one in signings(calm)}}))
            for web in list(signings(calm))[::9]:
                self.assertEqual(kind_count(web), told)

    def test_d6_all_tied(self):
        for sign in (1, -1):
            self.assertEqual([kind_count(full_web(many, sign)) for many in (1, 2, 3, 4, 5)], [1, 1, 2, 3, 7])

    def test_d6_rows_that_leave_classes(self):
        webs = list(all_ties_webs(4)) + list(drawn_webs(103, 3, 5, 5)) + [circle_web(5, True), empty_web(5)]
        for web in webs:
            rows = rows_anew(web)
            numbers = range(2 ** len(outer_anew(web)))
            webs_by_number = [web_by_number(web, number) for number in numbers]
            left = sum(number_anew(renamed_anew(one, row)) == number
                       for row in rows for number, one in enumerate(webs_by_number))
            self.assertEqual(kind_count(web) * len(rows), left)

    def test_edges(self):
        self.assertEqual([least_kin(empty_web(6)), kind_count(empty_web(5)), kind_count(empty_web(1))],
                         [empty_web(6), 1, 1])
        self.assertEqual(least_kin(full_web(6, -1)), least_anew(form_anew(full_web(6, -1))))
        self.assertEqual([kind_count(circle_web(5, True)), kind_count(circle_web(5, False))], [2, 2])
        self.assertEqual(least_kin(circle_web(6, False)), circle_web(6, False))

    def test_too_many(self):
        for function, most in ((least_kin, 6), (kind_count, 5)):
            for many in range(most + 1, 11):
                for web in (empty_web(many), circle_web(many, True), full_web(many, -1)):
                    with self.assertRaises(TooMany) as caught:
                        function(web)
                    self.assertEqual(caught.exception.count, most)


if __name__ == "__main__":
    unittest.main()
