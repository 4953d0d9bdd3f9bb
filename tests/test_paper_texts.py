import unittest
from itertools import combinations, permutations, product

from signrounds.alike import are_alike, turnings_between, unlike_ring
from signrounds.camps import bad_ring, camps
from signrounds.errors import InvalidPaper, InvalidText, NotShown
from signrounds.paper_texts import is_paper, paper_text, paper_told
from signrounds.webs import changed, turned, web_text, web_told
from tests.calls import many_values
from tests.counts import camps_anew, leading_anew, rounds_anew, same_ties_anew, sign_anew, turned_anew
from tests.samples import (
    Draw, circle_web, drawn_webs, empty_web, full_web, lots_of, pairs_tied, small_webs, spoilt, web_of,
)

TRI = ((0, -1, 1), (-1, 0, 1), (1, 1, 0))


def is_web_anew(value):
    """Whether it is a web, of at most four places."""
    if not isinstance(value, tuple) or not 1 <= len(value) <= 10:
        return False
    many = len(value)
    if not all(isinstance(row, tuple) and len(row) == many and all(type(one) is int for one in row) for row in value):
        return False
    signs = {(x, y): value[x][y] for x, y in combinations(range(many), 2)}
    return set(signs.values()) <= {0, 1, -1} and web_of(many, signs) == value


def is_lot_anew(web, value):
    return repr(value) in {repr(lot) for lot in lots_of(len(web))}


def is_ring_anew(web, value):
    return len(web) < 7 and repr(value) in {repr(ring) for ring in rounds_anew(web)}


def is_paper_anew(value):
    """Whether any value is a paper, by the words of the document."""
    if not isinstance(value, tuple) or not value or type(value[0]) is not str:
        return False
    word, *parts = value
    if word in ("camp", "ring") and len(parts) == 2 and is_web_anew(parts[0]):
        web, last = parts
        if word == "camp":
            return is_lot_anew(web, last) and last in camps_anew(web)
        return is_ring_anew(web, last) and sign_anew(web, last) == -1
    if word in ("turned", "unlike") and len(parts) == 3 and is_web_anew(parts[0]) and is_web_anew(parts[1]):
        web, other, last = parts
        if word == "turned":
            return is_lot_anew(web, last) and turned_anew(web, last) == other
        if not same_ties_anew(web, other) or not is_ring_anew(web, last):
            return False
        return sign_anew(web, last) != sign_anew(other, last)
    return False


def text_anew(paper):
    word, *webs, last = paper
    lines = ["/".join("".join("-.+"[sign + 1] for sign in row) for row in web) for web in webs]
    return ";".join([{"camp": "c", "ring": "r", "turned": "t", "unlike": "u"}[word], *lines, "".join(map(str, last))])


def rows_of_digits(many, is_ring):
    """All lots, or all rows that a ring may have, of so many digits."""
    if not is_ring:
        return lots_of(many)
    several = [row for size in range(3, many + 1) for row in permutations(range(many), size)]
    return [row for row in several if row[0] == min(row) and row[1] < row[-1]]


DIGITS = {(many, is_ring): {"".join(map(str, row))[:size] for row in rows_of_digits(many, is_ring)
                            for size in range(many + 1)}
          for many in range(1, 7) for is_ring in (False, True)}


def longest(text, letter, many):
    """How many first characters of the text some form with this letter and so many places begins with."""
    is_ring = letter in "ru"
    if is_ring and many < 3:
        return 0
    length = many * many + many - 1
    places = [letter, ";"]
    for _ in range(2 if letter in "tu" else 1):
        at = len(places)
        for index in range(length):
            x, y = divmod(index, many + 1)
            below = text[at + y * (many + 1) + x:][:1] if x > y else ""
            places.append("/" if y == many else "." if x == y else "-.+" if x < y else below)
        places.append(";")
    for index, letters in enumerate(places):
        if index >= len(text) or text[index] not in letters:
            return index
    digits = text[len(places):]
    sizes = [size for size in range(many + 1) if many < 7 and digits[:size] in DIGITS[many, is_ring]]
    return len(places) + min(max(sizes, default=0), len(digits))


def index_anew(text):
    """How many first characters some form begins with; digits are looked at for at most six places."""
    return max(longest(text, letter, many) for letter in "crtu" for many in range(1, 11))


def papers(web, draw):
    """Papers of the web, and of it and another one with the same ties."""
    told = [("camp", web, lot) for lot in camps_anew(web)]
    told += [("ring", web, ring) for ring in rounds_anew(web) if sign_anew(web, ring) == -1]
    lot = draw.lot(len(web))
    other = turned_anew(web, lot)
    told += [("turned", web, other, one) for one in leading_anew(web, other)]
    other = draw.resigned(web)
    told += [("turned", web, other, one) for one in leading_anew(web, other)]
    unlike = [ring for ring in rounds_anew(web) if sign_anew(web, ring) != sign_anew(other, ring)]
    return told + [("unlike", web, other, ring) for ring in unlike]


def some_papers(seed):
    draw = Draw(seed)
    several = list(small_webs(3)) + list(small_webs())[31::30] + list(drawn_webs(seed, 4, 5, 6))
    return [paper for web in several for paper in papers(web, draw)]


def great_papers():
    calm = turned(full_web(10, 1), (1, 2, 5, 9))
    circle = circle_web(10, True)
    return [("camp", calm, (0, 3, 4, 6, 7, 8)), ("camp", calm, (1, 2, 5, 9)), ("camp", empty_web(10), tuple(range(10))),
            ("camp", full_web(10, 1), ()), ("ring", full_web(10, -1), (7, 8, 9)), ("ring", circle, tuple(range(10))),
            ("turned", calm, full_web(10, 1), (1, 2, 5, 9)), ("turned", circle, circle, ()),
            ("unlike", circle, changed(circle, (3, 4)), tuple(range(10))),
            ("ring", changed(calm, (0, 9)), (0, 5, 4, 3, 2, 1, 8, 7, 6, 9))]


class Papers(unittest.TestCase):
    def test_papers_and_their_texts(self):
        for paper in some_papers(1001) + great_papers():
            self.assertIs(is_paper(paper), True)
            text = paper_text(paper)
            self.assertEqual(text, text_anew(paper))
            self.assertEqual(repr(paper_told(text)), repr(paper))

    def test_any_value(self):
        several = [("camp", web_told(".-/-."), (0,)), ("camp", empty_web(1), ()), ("ring", TRI, (0, 1, 2)),
                   ("turned", TRI, turned(TRI, (1,)), (1,)), ("unlike", TRI, changed(TRI, (0, 1)), (0, 1, 2))]
        words = [("Camp", TRI), ("", TRI), (None, TRI), (("camp",), TRI), ("camp",), ("ring",), (), "camp", "c;.;"]
        swapped = [(word, *paper[1:]) for paper in several for word in ("camp", "ring", "turned", "unlike", "c", "")]
        for value in many_values() + [one for paper in several for one in spoilt(paper)] + words + swapped + several:
            kept = repr(value)
            told = is_paper_anew(value)
            self.assertIs(is_paper(value), told, value)
            if not told:
                with self.assertRaises(InvalidPaper):
                    paper_text(value)
            self.assertEqual(repr(value), kept)

    def test_what_is_no_paper(self):
        friends, foes = full_web(3, 1), full_web(3, -1)
        for value in (("camp", TRI, ()), ("camp", friends, (0,)), ("ring", friends, (0, 1, 2)),
                      ("ring", TRI, (0, 2, 1)), ("ring", TRI, (1, 2, 0)), ("ring", TRI, [0, 1, 2]),
                      ("turned", friends, friends, (0,)),
                      ("turned", friends, full_web(2, 1), ()), ("turned", friends, None, ()),
                      ("unlike", friends, friends, (0, 1, 2)), ("unlike", friends, full_web(4, -1), (0, 1, 2)),
                      ("unlike", friends, web_of(3, {(0, 1): -1}), (0, 1, 2)), ["camp", friends, ()],
                      ("camp", friends, (), ()), ("turned", friends, friends), ("unlike", None, foes, (0, 1, 2)),
                      ("turned", ((0, 1), (1, 0)), ((0, True), (True, 0)), ()),
                      ("turned", ((0, 1), (1, 0)), [(0, 1), (1, 0)], ())):
            self.assertIs(is_paper(value), False)
            with self.assertRaises(InvalidPaper):
                paper_text(value)
        self.assertIs(is_paper(("unlike", friends, foes, (0, 1, 2))), True)

    def test_by_name(self):
        paper = ("camp", web_told(".-/-."), (0,))
        self.assertEqual([is_paper(value=paper), paper_text(value=paper), paper_told(text="c;.-/-.;0")],
                         [True, "c;.-/-.;0", paper])


class Texts(unittest.TestCase):
    def outcome(self, text):
        try:
            return ("told", paper_told(text))
        except InvalidText as error:
            return ("wrong", error.index)
        except NotShown as error:
            return ("not shown", error.ties)

    def check(self, text):
        kind, value = self.outcome(text)
        told = index_anew(text)
        if told < len(text):
            self.assertEqual((kind, value), ("wrong", told), text)
        elif kind == "wrong":
            self.assertEqual(value, len(text), text)
            self.assertFalse(self.is_form(text), text)
        else:
            self.assertTrue(self.is_form(text), text)
            if kind == "told":
                self.assertTrue(is_paper_anew(value))
                self.assertEqual(text_anew(value), text)

    def is_form(self, text):
        """Whether the text, which some form begins with, is one itself."""
        parts = text.split(";")
        if text[:1] not in tuple("crtu") or len(parts) != (4 if text[0] in "tu" else 3):
            return False
        many = parts[1].find("/") if "/" in parts[1] else 1
        return tuple(map(int, parts[-1])) in rows_of_digits(many, text[0] in "ru")

    def test_cut_exchanged_and_longer_texts(self):
        several = [text_anew(paper) for paper in some_papers(1002)[::70]]
        for text in several:
            for at in range(len(text) + 1):
                self.check(text[:at])
                for letter in "0129.+-/;c x":
                    self.check(text[:at] + letter + text[at:])
                    if at < len(text):
                        self.check(text[:at] + letter + text[at + 1:])
                self.check(text[:at] + text[at + 1:])

    def test_all_digits_behind_a_web(self):
        for many in (3, 4, 5):
            for letter, webs in (("r", 1), ("c", 1), ("u", 2), ("t", 2)):
                head = ";".join([letter] + [web_text(full_web(many, -1))] * webs) + ";"
                for size in range(5):
                    for row in product(range(min(many + 1, 5)), repeat=size):
                        self.check(head + "".join(map(str, row)))

    def test_short_texts(self):
        letters = "crtu;.+-/0"
        for size in range(5):
            for row in product(letters, repeat=size):
                self.check("".join(row))

    def test_rings_of_ten_places(self):
        head = "r;" + web_text(full_web(10, -1)) + ";"
        at = len(head)
        for row, index in (("", 0), ("8", 0), ("9", 0), ("7", 1), ("78", 2), ("79", 1), ("789", None), ("798", 1),
                           ("0", 1), ("01", 2), ("09", 1), ("08", 2), ("089", None), ("0891", 3), ("0819", None),
                           ("081", 3), ("00", 1), ("010", 2), ("012", None), ("0123456789", None), ("1234567890", 9),
                           ("0987654321", 1), ("0897654321", 3), ("0812345679", None), ("01234567899", 10),
                           ("0876543219", None), ("087654321", 9), ("0124a", 4), ("12", 2), ("120", 2), ("21", 1)):
            kind, value = self.outcome(head + row)
            if index is None:
                self.assertEqual(value, () if kind == "not shown" else ("ring", full_web(10, -1), tuple(map(int, row))))
                self.assertEqual(kind, "told" if len(row) % 2 else "not shown")
            else:
                self.assertEqual((kind, value), ("wrong", at + index), row)

    def test_lots_of_ten_places(self):
        head = "c;" + web_text(empty_web(10)) + ";"
        at = len(head)
        for row, index in (("", None), ("0123456789", None), ("9", None), ("99", 1), ("10", 1), ("01234567890", 10),
                           ("13579", None), ("135792", 5), ("a", 0), ("1 2", 1)):
            told = ("told", ("camp", empty_web(10), tuple(map(int, row)))) if index is None else ("wrong", at + index)
            self.assertEqual(self.outcome(head + row), told)

    def test_webs_in_texts(self):
        for text, index in (("", 0), ("x", 0), ("c", 1), ("cc", 1), ("c;", 2), ("c;;", 2), ("c;+", 2), ("c;.", 3),
                            ("c;./", 3), ("c;.;", None), ("c;.;0", None), ("c;.;1", 4), ("c;.;;", 4), ("c;.+;", 4),
                            ("c;.+/", 5), ("c;.+/-", 5), ("c;.+/+.", 7), ("c;.+/+./", 7), ("r;.;", 3), ("r;./", 3),
                            ("r;.+/", 4), ("r;.+", 4), ("r;.+;", 4), ("u;.", 3), ("u;.+/", 4), ("t;.;.", 5),
                            ("t;.;.+", 5), ("t;.;.;", None), ("t;.;+", 4), ("t;.;", 4), ("t;.;;", 4), ("t;.+/+.;.;", 9),
                            ("t;.+/+.;./", 9), ("c;.+++++++++", 12), ("c;.++++++++++", 12), ("r;.++++++++++", 12),
                            ("c;.+++++++++/", 13), ("x" * 20000, 0), ("c;" + "." * 19000, 12), ("C;.;", 0),
                            (" c;.;", 0), ("c;.; ", 4), ("c;.;0\n", 5), ("c\n", 1)):
            kind, value = self.outcome(text)
            self.assertEqual(kind, "told" if index is None else "wrong", text)
            if index is not None:
                self.assertEqual(value, index, text)

    def test_values_that_are_no_strings(self):
        for value in (None, 0, True, (), [], ("c;.;",), ["c;.;"], 10**89):
            with self.assertRaises(InvalidText) as caught:
                paper_told(value)
            self.assertEqual(caught.exception.index, 0)

    def test_forms_that_are_no_papers(self):
        for web in list(small_webs(3)) + list(small_webs())[31::25]:
            text = web_text(web)
            for lot in lots_of(len(web)):
                digits = "".join(map(str, lot))
                wrong = tuple((x, y) for x, y in pairs_tied(web)
                              if web[x][y] != (-1 if (x in lot) != (y in lot) else 1))
                told = ("not shown", wrong) if wrong else ("told", ("camp", web, lot))
                self.assertEqual(self.outcome(f"c;{text};{digits}"), told)
                other = list(small_webs(3))[-1] if len(web) == 3 else web
                moved = turned_anew(web, lot)
                wrong = tuple((x, y) for x, y in combinations(range(len(web)), 2) if moved[x][y] != other[x][y])
                told = ("not shown", wrong) if wrong else ("told", ("turned", web, other, lot))
                self.assertEqual(self.outcome(f"t;{text};{web_text(other)};{digits}"), told)
            for ring in rows_of_digits(len(web), True):
                digits = "".join(map(str, ring))
                paper = ("ring", web, ring)
                told = ("told", paper) if is_paper_anew(paper) else ("not shown", ())
                self.assertEqual(self.outcome(f"r;{text};{digits}"), told)
                for other in (TRI, full_web(len(web), -1), circle_web(len(web), True)):
                    if len(other) == len(web):
                        paper = ("unlike", web, other, ring)
                        told = ("told", paper) if is_paper_anew(paper) else ("not shown", ())
                        self.assertEqual(self.outcome(f"u;{text};{web_text(other)};{digits}"), told)

    def test_unlike_pairs_where_one_is_not_tied(self):
        self.assertEqual(self.outcome("t;.+./+.-/.-.;..+/..+/++.;"), ("not shown", ((0, 1), (0, 2), (1, 2))))
        self.assertEqual(self.outcome("t;.+./+.-/.-.;.-./-.+/.+.;1"), ("told", (
            "turned", web_told(".+./+.-/.-."), web_told(".-./-.+/.+."), (1,))))
        self.assertEqual(self.outcome("u;.++/+.+/++.;.+-/+.+/-+.;012")[0], "told")
        self.assertEqual(self.outcome("u;.++/+.+/++.;.+-/+../-..;012"), ("not shown", ()))


class Facts(unittest.TestCase):
    def test_o1_there_and_back(self):
        for paper in some_papers(1011) + great_papers():
            text = paper_text(paper)
            self.assertEqual(paper_told(text), paper)
            self.assertEqual(paper_text(paper_told(text)), text)

    def test_o2_just_one_of_two(self):
        draw = Draw(1012)
        for web in list(small_webs()) + list(drawn_webs(1012, 4, 5, 6)):
            ring = bad_ring(web)
            if ring is None:
                self.assertTrue(all(is_paper(("camp", web, lot)) for lot in camps(web)))
                self.assertFalse(any(is_paper(("ring", web, one)) for one in rounds_anew(web)))
            else:
                self.assertTrue(is_paper(("ring", web, ring)))
                self.assertFalse(any(is_paper(("camp", web, lot)) for lot in lots_of(len(web))))
            other = draw.resigned(web)
            ring = unlike_ring(web, other)
            if ring is None:
                self.assertTrue(are_alike(web, other))
                self.assertTrue(all(is_paper(("turned", web, other, lot)) for lot in turnings_between(web, other)))
                self.assertFalse(any(is_paper(("unlike", web, other, one)) for one in rounds_anew(web)))
            else:
                self.assertTrue(is_paper(("unlike", web, other, ring)))
                self.assertFalse(any(is_paper(("turned", web, other, lot)) for lot in lots_of(len(web))))


if __name__ == "__main__":
    unittest.main()
