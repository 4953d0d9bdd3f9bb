import unittest

from signrounds.errors import InvalidText, Refused, TooMany
from signrounds.webs import (
    bad_rings, beside, changed, first_forest, foes, inner, is_ring, is_web, less_tie, neighbours, opposite, pieces,
    renamed, ring_sign, ring_ties, ring_told, rings, ties, turned, web_text, web_told, with_tie,
)
from tests.calls import WRONG_WEBS, many_values
from tests.counts import (
    exactly, forest_anew, pieces_anew, renamed_anew, ring_anew, rounds_anew, sign_anew, ties_anew, turned_anew,
)
from tests.samples import Draw, circle_web, drawn_webs, empty_web, full_web, lots_of, pairs_tied, small_webs, spoilt


def with_pair(web, x, y, sign):
    """The web whose entries of this pair are the sign."""
    rows = [list(row) for row in web]
    rows[x][y] = rows[y][x] = sign
    return tuple(map(tuple, rows))


def is_web_anew(value):
    """Whether the value is written as a web is."""
    try:
        many = len(value)
        kinds = isinstance(value, tuple) and all(isinstance(row, tuple) and len(row) == many for row in value)
        if not kinds or not 1 <= many <= 10:
            return False
        cells = [repr(value[x][y]) for x in range(many) for y in range(many)]
        back = [repr(value[y][x]) for x in range(many) for y in range(many)]
        return cells == back and set(cells) <= {"0", "1", "-1"} and {cells[at * many + at] for at in range(many)} == {"0"}
    except TypeError:
        return False


class Webs(unittest.TestCase):
    def test_is_web(self):
        for web in list(small_webs()) + list(drawn_webs(1)) + [empty_web(1), empty_web(10), full_web(10, -1)]:
            self.assertIs(is_web(web), True)
        for value in WRONG_WEBS:
            self.assertIs(is_web(value), False, value)
        for value in many_values():
            self.assertIs(is_web(value), is_web_anew(value))

    def test_is_web_spoilt(self):
        for web in list(small_webs(3)) + [circle_web(4, True), full_web(10, 1)]:
            for value in spoilt(web):
                kept = repr(value)
                self.assertIs(is_web(value), is_web_anew(value), value)
                self.assertEqual(repr(value), kept)

    def test_ties_foes_and_neighbours(self):
        for web in list(small_webs()) + list(drawn_webs(2)):
            self.assertEqual(ties(web), pairs_tied(web))
            self.assertEqual(foes(web), [(x, y) for x, y in pairs_tied(web) if web[x][y] == -1])
            for place in range(len(web)):
                tied = [(other, web[place][other]) for other in range(len(web)) if web[place][other]]
                self.assertEqual(neighbours(web, place), tuple(other for other, _ in tied))
                self.assertEqual(neighbours(web, place, 0), neighbours(web, place))
                for sign in (1, -1):
                    self.assertEqual(neighbours(web, place, sign), tuple(other for other, one in tied if one == sign))

    def test_no_ties(self):
        for many in (1, 2, 7, 10):
            web = empty_web(many)
            self.assertEqual([ties(web), foes(web), first_forest(web), neighbours(web, 0)], [[], [], [], ()])
            self.assertEqual(pieces(web), [(place,) for place in range(many)])
            self.assertEqual([opposite(web), turned(web, tuple(range(many)))], [web, web])

    def test_turned(self):
        for web in list(small_webs(3)) + list(drawn_webs(3)):
            for lot in lots_of(len(web))[:40] + [(), tuple(range(len(web)))]:
                self.assertEqual(turned(web, lot), turned_anew(web, lot))

    def test_changed_and_less_tie_and_opposite(self):
        for web in list(small_webs()) + list(drawn_webs(4)):
            for x, y in pairs_tied(web):
                self.assertEqual(changed(web, (x, y)), with_pair(web, x, y, -web[x][y]))
                self.assertEqual(less_tie(web, (x, y)), with_pair(web, x, y, 0))
            self.assertEqual(opposite(web), tuple(tuple(-sign for sign in row) for row in web))

    def test_with_tie(self):
        for web in list(small_webs(3)) + list(drawn_webs(5)):
            for x in range(len(web)):
                for y in range(len(web)):
                    if x != y and web[x][y] == 0:
                        for sign in (1, -1):
                            self.assertEqual(with_tie(web, x, y, sign), with_pair(web, x, y, sign))
                    elif x != y:
                        for sign in (1, -1):
                            with self.assertRaises(Refused):
                                with_tie(web, x, y, sign)

    def test_pieces(self):
        for web in small_webs():
            for lot in lots_of(len(web)):
                self.assertEqual(pieces(web, lot), pieces_anew(web, lot))
            self.assertEqual(pieces(web), pieces(web, ()))
            self.assertEqual(pieces(web, tuple(range(len(web)))), [])
        draw = Draw(6)
        for web in drawn_webs(6, 2, 5, 8):
            for lot in ((), draw.lot(len(web)), draw.lot(len(web)), (0,)):
                self.assertEqual(pieces(web, lot), pieces_anew(web, lot))

    def test_inner(self):
        for web in list(small_webs(3)) + list(drawn_webs(7, 2)):
            for lot in lots_of(len(web))[1:100] + [tuple(range(len(web)))]:
                self.assertEqual(inner(web, lot), tuple(tuple(web[x][y] for y in lot) for x in lot))
            self.assertEqual(inner(web, tuple(range(len(web)))), web)

    def test_renamed(self):
        draw = Draw(8)
        for web in list(small_webs()) + list(drawn_webs(8)):
            row = draw.row(len(web))
            told = renamed(web, row)
            self.assertEqual(told, renamed_anew(web, row))
            for x in range(len(web)):
                for y in range(len(web)):
                    self.assertEqual(told[row[x]][row[y]], web[x][y])

    def test_beside(self):
        for web in [empty_web(1), circle_web(3, True), full_web(5, -1)]:
            for other in [empty_web(1), full_web(4, 1), circle_web(5, False)]:
                both = beside(web, other)
                self.assertEqual(inner(both, tuple(range(len(web)))), web)
                self.assertEqual(inner(both, tuple(range(len(web), len(both)))), other)
                moved = [(x + len(web), y + len(web)) for x, y in pairs_tied(other)]
                self.assertEqual(ties(both), pairs_tied(web) + moved)
                self.assertTrue(is_web(both))

    def test_beside_of_ten_and_eleven(self):
        for many in range(1, 10):
            self.assertEqual(len(beside(full_web(many, -1), full_web(10 - many, 1))), 10)
            with self.assertRaises(TooMany) as caught:
                beside(full_web(many, 1), full_web(11 - many, -1))
            self.assertEqual(caught.exception.count, 10)
        with self.assertRaises(TooMany):
            beside(empty_web(10), empty_web(10))

    def test_first_forest(self):
        for web in list(small_webs()) + list(drawn_webs(9)):
            self.assertEqual(first_forest(web), forest_anew(web))


class Rounds(unittest.TestCase):
    def test_rings(self):
        for web in list(small_webs()) + list(drawn_webs(10, 4, 5, 6)):
            told = rounds_anew(web)
            self.assertEqual(rings(web), told)
            self.assertEqual(bad_rings(web), [ring for ring in told if sign_anew(web, ring) == -1])
            for ring in told:
                self.assertIs(is_ring(web, ring), True)
                self.assertEqual(ring_ties(web, ring), tuple(ties_anew(ring)))
                self.assertEqual(ring_sign(web, ring), sign_anew(web, ring))

    def test_seven_and_eight_places(self):
        self.assertEqual(len(rings(full_web(7, -1))), 1172)
        self.assertEqual(rings(full_web(7, -1)), rounds_anew(full_web(7, -1)))
        self.assertEqual(len(bad_rings(full_web(7, -1))), 35 + 21 * 12 + 360)
        self.assertEqual([rings(empty_web(7)), bad_rings(empty_web(7)), rings(empty_web(1))], [[], [], []])
        for web in (empty_web(8), full_web(8, 1), circle_web(9, True), empty_web(10)):
            for function in (rings, bad_rings):
                with self.assertRaises(TooMany) as caught:
                    function(web)
                self.assertEqual(caught.exception.count, 7)

    def test_is_ring_with_any_value(self):
        for web in list(small_webs(3)) + [full_web(4, -1), circle_web(5, True), *drawn_webs(11, 4, 4, 5)]:
            several = rounds_anew(web)
            values = many_values() + [value for ring in several for value in spoilt(ring)]
            for value in values:
                kept = repr(value)
                self.assertIs(is_ring(web, value), exactly(value, several), value)
                self.assertEqual(repr(value), kept)

    def test_rounds_of_many_places(self):
        for many in (8, 9, 10):
            web = circle_web(many, True)
            ring = tuple(range(many))
            self.assertTrue(is_ring(web, ring))
            self.assertEqual(ring_sign(web, ring), -1)
            self.assertEqual(ring_ties(web, ring), tuple(pairs_tied(web)))
            self.assertFalse(is_ring(web, ring[::-1]))
            self.assertEqual(ring_told(web, ring[3:] + ring[:3]), ring)

    def test_ring_told(self):
        for web in [full_web(3, 1), full_web(4, -1), circle_web(5, True), *drawn_webs(12, 4, 5, 6)]:
            for ring in rounds_anew(web):
                for at in range(len(ring)):
                    row = ring[at:] + ring[:at]
                    self.assertEqual(ring_told(web, row), ring)
                    self.assertEqual(ring_told(web, row[::-1]), ring)
                    self.assertEqual(ring_anew(row), ring)


def begins_text(text, many):
    """Whether the text of some web of so many places begins with this."""
    if len(text) > many * many + many - 1:
        return False
    for index, letter in enumerate(text):
        x, y = divmod(index, many + 1)
        if (letter == "/") != (y == many) or letter not in ".+-/":
            return False
        if x == y and letter != ".":
            return False
        if y < many and y < x and letter != text[y * (many + 1) + x]:
            return False
    return True


def index_anew(text):
    """None for the text of a web, else how many first characters could be the beginning of one."""
    if any(len(text) == many * many + many - 1 and begins_text(text, many) for many in range(1, 11)):
        return None
    return max(size for size in range(len(text) + 1) if any(begins_text(text[:size], many) for many in range(1, 11)))


class Texts(unittest.TestCase):
    def check(self, text):
        index = index_anew(text)
        if index is None:
            self.assertEqual(web_text(web_told(text)), text)
        else:
            with self.assertRaises(InvalidText, msg=text) as caught:
                web_told(text)
            self.assertEqual(caught.exception.index, index, text)

    def test_there_and_back(self):
        for web in list(small_webs()) + list(drawn_webs(13)):
            lines = web_text(web).split("/")
            self.assertEqual([[".+-".index(letter) for letter in line] for line in lines],
                             [[(0, 1, 2)[sign] for sign in row] for row in web])
            self.assertEqual(web_told(web_text(web)), web)
            self.assertTrue(is_web(web_told(web_text(web))))

    def test_all_short_texts(self):
        texts = [""]
        for _ in range(5):
            for text in texts:
                self.check(text)
            texts = [text + letter for text in texts for letter in ".+-/x"]

    def test_texts_cut_and_changed(self):
        draw = Draw(14)
        for web in [empty_web(1), full_web(2, -1), circle_web(3, True), *drawn_webs(14, 2, 4, 10)]:
            text = web_text(web)
            for at in range(len(text) + 1):
                self.check(text[:at])
                letter = draw.one(".+-/ 0\n")
                self.check(text[:at] + letter + text[at + 1:])
                self.check(text[:at] + letter + text[at:])
                self.check(text[:at] + text[at + 1:])
            for more in ("/", ".", " ", "\n", "/" + text, text):
                self.check(text + more)
                self.check(more + text)

    def test_too_many_places(self):
        for text in ("." * 10, "." * 11, "." * 12, "." * 20000, "/".join(["." * 11] * 11), "-" * 20, "./.", "/"):
            self.check(text)

    def test_letters_that_are_not_ascii(self):
        for text, index in (("\u2212", 0), (".\u2212/\u2212.", 1), (".-/-\u00b7", 4)):
            with self.assertRaises(InvalidText) as caught:
                web_told(text)
            self.assertEqual(caught.exception.index, index)


if __name__ == "__main__":
    unittest.main()
