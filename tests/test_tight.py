import unittest

from signrounds.lumps import lumps
from signrounds.tight import is_tight, tie_kinds, tight_part
from signrounds.trouble import least_cures, trouble
from signrounds.webs import beside, changed, inner, less_tie, turned
from tests.counts import camps_anew, trouble_anew, turned_anew, without_anew, wrong_anew
from tests.samples import (
    Draw, circle_web, drawn_webs, empty_web, full_web, lots_of, pairs_tied, small_webs, web_of,
)


def kinds_anew(web):
    """The kinds from all lots with the fewest wrong ties."""
    wrong = [wrong_anew(web, lot) for lot in lots_of(len(web))]
    least = min(map(len, wrong))
    told = []
    for tie in pairs_tied(web):
        inside = {tie in some for some in wrong if len(some) == least}
        told.append("loose" if len(inside) == 2 else "held" if True in inside else "idle")
    return tuple(told)


def some_webs(seed, most=10):
    calm = turned_anew(full_web(8, 1), (1, 2, 5))
    roof = web_of(4, {(0, 1): -1, (0, 2): 1, (0, 3): 1, (1, 2): 1, (1, 3): 1})
    return list(drawn_webs(seed, 4, 5, most)) + [
        calm, changed(calm, (0, 1)), full_web(6, -1), full_web(7, -1), circle_web(10, True), circle_web(6, False),
        empty_web(1), empty_web(10), roof, beside(roof, circle_web(3, True)), beside(full_web(4, -1), full_web(3, -1)),
    ]


class Tight(unittest.TestCase):
    def check_part(self, web):
        part = tight_part(web)
        self.assertEqual(len(part), len(web))
        for x, row in enumerate(part):
            self.assertIsInstance(row, tuple)
            for y, sign in enumerate(row):
                self.assertIn(sign, (0, web[x][y]))
                self.assertEqual(sign, part[y][x])
        least = trouble_anew(web)
        self.assertEqual(trouble_anew(part), least)
        self.assertNotIn("idle", kinds_anew(part))
        self.assertIs(is_tight(part), True)
        if not least:
            self.assertEqual(part, empty_web(len(web)))

    def test_kinds_of_small_webs(self):
        for web in small_webs():
            self.assertEqual(tie_kinds(web), kinds_anew(web))
            self.assertIs(is_tight(web), "idle" not in kinds_anew(web))

    def test_kinds_of_greater_webs(self):
        for web in some_webs(401):
            self.assertEqual(tie_kinds(web), kinds_anew(web))
            self.assertIs(is_tight(web), "idle" not in kinds_anew(web))

    def test_tight_parts(self):
        for web in list(small_webs()) + some_webs(402, 8):
            self.check_part(web)
        for web in (full_web(10, -1), full_web(10, 1), *drawn_webs(403, 3, 10, 10)):
            self.check_part(web)

    def test_edges(self):
        for web in (empty_web(1), empty_web(10)):
            self.assertEqual([tie_kinds(web), is_tight(web), tight_part(web)], [(), True, web])
        self.assertEqual(tie_kinds(full_web(10, 1)), ("idle",) * 45)
        self.assertIs(is_tight(full_web(2, -1)), False)
        self.assertEqual(tight_part(full_web(10, 1)), empty_web(10))
        self.assertEqual([tie_kinds(circle_web(10, True)), tight_part(circle_web(10, True))],
                         [("loose",) * 10, circle_web(10, True)])
        self.assertEqual([tie_kinds(full_web(10, -1)), is_tight(full_web(9, -1))], [("loose",) * 45, True])


class Facts(unittest.TestCase):
    def webs(self, seed):
        return list(small_webs())[::2] + some_webs(seed, 7)

    def test_f5_tight(self):
        for web in self.webs(411):
            least, kinds = trouble(web), tie_kinds(web)
            less = [trouble(less_tie(web, tie)) for tie in pairs_tied(web)]
            self.assertIs(is_tight(web), all(one < least for one in less))
            self.assertEqual([one == least for one in less], [kind == "idle" for kind in kinds])

    def test_f5_lumps_of_tight_webs(self):
        for web in self.webs(412):
            part = tight_part(web)
            for lump in lumps(part):
                if len(lump) > 1:
                    self.assertTrue(is_tight(inner(part, lump)))
                    self.assertFalse(camps_anew(inner(part, lump)))

    def test_f6_one_least_cure(self):
        for web in self.webs(413):
            kinds = tie_kinds(web)
            self.assertIs(len(least_cures(web)) == 1, "loose" not in kinds)

    def test_f6_f7_changed_ties(self):
        for web in self.webs(414):
            for tie, kind in zip(pairs_tied(web), tie_kinds(web)):
                more = trouble(changed(web, tie)) - trouble(web)
                self.assertIn(more, (0, 1) if kind == "idle" else (-1,))

    def test_alike_webs_have_the_same_kinds(self):
        draw = Draw(415)
        for web in self.webs(415):
            lot = draw.lot(len(web))
            self.assertEqual(tie_kinds(turned(web, lot)), tie_kinds(web))
            self.assertEqual(trouble(without_anew(web, [t for t, k in zip(pairs_tied(web), tie_kinds(web))
                                                        if k == "held"])),
                             trouble(web) - tie_kinds(web).count("held"))


if __name__ == "__main__":
    unittest.main()
