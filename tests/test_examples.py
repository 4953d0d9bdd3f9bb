"""The examples of the document."""

import unittest

from signrounds.alike import (
    are_alike, form, form_turning, kin_count, product, turning_between, turnings_between, unlike_ring,
)
from signrounds.camps import bad_ring, balanced_pieces, by_camp, camp, camps, is_bad_ring, is_balanced, is_camp
from signrounds.choices import (
    choice_by, gates, is_gate_row, pair_count, standing_count, standing_row, stands, stop, turned_choice,
)
from signrounds.class_numbers import kind_count, least_kin
from signrounds.classes import (
    changed_to, class_count, class_gap, class_number, class_size, even_members, foe_counts, member_number, nth_class,
    nth_member,
)
from signrounds.doubled import (
    doubled, doubled_tree_count, dropped, lifted, sheet_pieces, step_table, twin_maps, walk_counts, walk_sign,
    web_of_twins,
)
from signrounds.dyes import dyeing_count, first_dyeing, least_width, polynomial
from signrounds.console import Console
from signrounds.errors import (
    InvalidText, InvalidTie, NotAlike, NotAllTied, NotBalanced, NotShown, NotTheta, OverLimit, Refused,
)
from signrounds.free_sets import (
    bind_in, bind_with, first_free, free_counts, is_bind, is_free, is_lightest, lightest_free, rank_of,
)
from signrounds.joining import drawn, parted_tie, put_in, trimmed
from signrounds.live import LimitedLive, Live
from signrounds.lumps import (
    bad_pair, bad_ring_at, common_places, common_ties, good_ring_at, joints, least_leaving, lump_troubles, lumps,
)
from signrounds.paper_texts import paper_text, paper_told
from signrounds.rests import ailing, calmed, calming_lengths, heavy_lot, is_at_rest, is_calming, nth_rest, rest_count
from signrounds.round_signs import (
    clash, class_with, count_with, is_clash, is_sum_row, is_theta, own_rounds, ring_sum, round_signs, sum_row,
    web_by_own, web_by_signs,
)
from signrounds.threes import (
    bad_at_ties, bad_threes, even_count, is_even, is_steady, keeping_rows, lot_for_row, nth_threes, odd_four,
    threes_number, web_of_threes,
)
from signrounds.tight import is_tight, tie_kinds, tight_part
from signrounds.trouble import (
    best_camp_count, is_apart, is_cure, least_bearing, least_cures, most_apart, nth_best_camp, trouble, wrong_ties,
)
from signrounds.webs import (
    bad_rings, changed, first_forest, foes, neighbours, opposite, ring_sign, ring_ties, ring_told, rings, ties, turned,
    web_text, web_told, with_tie,
)
from signrounds.weights import free_weight, tie_table, tree_count, weight_sums

tri = web_told(".-+/-.+/++.")
four = web_told(".---/-.--/--.-/---.")
path = web_told(".-../-.+./.+.-/..-.")
friends, flip = web_told(".++/+.+/++."), web_told(".--/-.+/-+.")
all4 = web_told(".+++/+.++/++.+/+++.")
six = web_told(".-...+/-.+.../.+.+../..+.-./...-.+/+...+.")
bow = web_told(".++../+.-../+-.++/..+.+/..++.")
roof = web_told(".-++/-.++/++../++..")
trio = web_told(".--/-.-/--.")
amity = web_told(".++/+.+/++.")
knot = web_told(".--../-.-../--.--/..-.-/..--.")
five = web_told(".+++++/+.-++-/+-.-++/++-.-+/+++-.-/+-++-.")
bad, good = web_told(".+-/+.+/-+."), web_told(".++/+.+/++.")
bent = web_told(".+./+.-/.-.")


class Examples(unittest.TestCase):
    def raises(self, error, field, value, function, *values):
        with self.assertRaises(error) as caught:
            function(*values)
        self.assertEqual(getattr(caught.exception, field), value)

    def test_webs(self):
        self.assertEqual(tri, ((0, -1, 1), (-1, 0, 1), (1, 1, 0)))
        told = [ties(tri), foes(tri), rings(tri), ring_sign(tri, (0, 1, 2)), neighbours(tri, 0), neighbours(tri, 0, 1)]
        self.assertEqual(told, [[(0, 1), (0, 2), (1, 2)], [(0, 1)], [(0, 1, 2)], -1, (1, 2), (2,)])
        told = [web_text(turned(tri, (1,))), web_text(opposite(tri)), web_text(changed(tri, (0, 1)))]
        self.assertEqual(told, [".++/+.-/+-.", ".+-/+.-/--.", ".++/+.+/++."])
        told = [len(rings(four)), len(bad_rings(four)), first_forest(four), ring_told(four, (3, 1, 2)),
                ring_ties(four, (0, 1, 3, 2))]
        self.assertEqual(told, [7, 4, [(0, 1), (0, 2), (0, 3)], (1, 2, 3), ((0, 1), (0, 2), (1, 3), (2, 3))])

    def test_errors_of_webs(self):
        self.raises(InvalidText, "index", 3, web_told, ".-/+")
        self.raises(InvalidText, "index", 5, web_told, ".-+/-+")
        self.raises(InvalidText, "index", 2, web_told, ".-")
        with self.assertRaises(Refused):
            with_tie(tri, 0, 1, 1)

    def test_camps(self):
        told = [is_balanced(path), camp(path), camps(path), bad_ring(path), balanced_pieces(tri)]
        self.assertEqual(told, [True, (0, 3), [(0, 3), (1, 2)], None, []])
        told = [bad_ring(tri), is_bad_ring(four, (0, 1, 2, 3)), is_bad_ring(four, (1, 2, 3)), is_camp(path, (1, 2)),
                is_camp(path, ())]
        self.assertEqual(told, [(0, 1, 2), False, True, True, False])
        self.assertEqual([web_text(by_camp(four, (0, 1))), camps(((0,),))], [".+--/+.--/--.+/--+.", [(), (0,)]])
        self.raises(NotBalanced, "ring", (0, 1, 2), camp, tri)

    def test_alike(self):
        told = [are_alike(friends, flip), are_alike(friends, tri), turning_between(friends, flip),
                turnings_between(friends, flip)]
        self.assertEqual(told, [True, False, (0,), [(0,), (1, 2)]])
        told = [unlike_ring(friends, tri), web_text(product(flip, tri)), web_text(form(tri)), form_turning(tri),
                kin_count(tri)]
        self.assertEqual(told, [(0, 1, 2), ".+-/+.+/-+.", ".++/+.-/+-.", (1,), 6])
        self.raises(NotAlike, "ring", (0, 1, 2), turning_between, friends, tri)

    def test_round_signs(self):
        told = [own_rounds(all4), ring_sum(all4, (1, 2, 3)), round_signs(tri)]
        own = [(0, 1, 2), (0, 1, 3), (0, 2, 3)]
        self.assertEqual(told, [own, own, (-1,)])
        self.assertIs(is_theta(all4, ((0, 1, 2), (0, 1, 3), (0, 2, 1, 3))), True)
        self.assertIs(is_theta(all4, ((0, 1, 2), (0, 1, 3), (0, 2, 3))), False)
        told = [web_text(web_by_own(all4, (1, 1, -1))), web_text(class_with(all4, ((1, 2, 3),), (-1,))),
                count_with(all4, ((1, 2, 3),), (-1,))]
        self.assertEqual(told, [".+++/+.++/++.-/++-.", ".+++/+.++/++.-/++-.", 4])
        self.assertEqual(sum_row(all4, ((0, 1, 2), (0, 1, 3)), (0, 2, 1, 3)), (0, 1))
        self.assertTrue(is_sum_row(all4, ((0, 1, 2), (0, 1, 3)), (0, 2, 1, 3), (0, 1)))
        self.assertEqual(clash(all4, ((0, 1, 2), (0, 1, 3), (0, 2, 1, 3)), (-1, 1, 1)), (0, 1, 2))
        self.assertTrue(is_clash(all4, ((0, 1, 2), (0, 1, 3), (0, 2, 1, 3)), (-1, 1, 1), (0, 1, 2)))
        with self.assertRaises(NotTheta):
            web_by_signs(all4, (-1, 1, 1, 1, 1, 1, 1))

    def test_classes(self):
        told = [class_count(all4), class_size(all4), class_number(tri), nth_class(tri, 0) == friends, nth_class(tri, 2)]
        self.assertEqual(told, [8, 8, 1, True, None])
        told = [nth_member(friends, 0) == flip, member_number(friends), foe_counts(tri), foe_counts(friends)]
        self.assertEqual(told, [True, 3, (0, 3, 0, 1), (1, 0, 3, 0)])
        told = [[web_text(one) for one in even_members(tri)], changed_to(friends, tri), class_gap(friends, flip)]
        self.assertEqual(told, [[".--/-.-/--."], ((0, 1),), 0])
        told = [web_text(least_kin(web_told(".+++/+.-+/+-.+/+++."))), kind_count(all4), kind_count(tri)]
        self.assertEqual(told, [".+++/+.++/++.-/++-.", 3, 2])

    def test_trouble(self):
        told = [trouble(tri), wrong_ties(tri, ()), wrong_ties(tri, (0,)), best_camp_count(tri), nth_best_camp(tri, 3),
                nth_best_camp(tri, 6)]
        self.assertEqual(told, [1, ((0, 1),), ((0, 2),), 6, (0, 2), None])
        told = [least_cures(tri), is_cure(tri, ()), is_cure(tri, ((0, 1), (1, 2))), least_bearing(tri, (0, 1), 1)]
        self.assertEqual(told, [[((0, 1),), ((0, 2),), ((1, 2),)], False, True, 1])
        told = [trouble(four), best_camp_count(four), len(most_apart(four)), most_apart(tri)]
        self.assertEqual(told, [2, 6, 1, [(0, 1, 2)]])
        told = [is_apart(four, [(0, 1, 2)]), is_apart(four, [(0, 1, 2), (0, 1, 3)]), is_apart(four, []),
                is_apart(four, [(1, 0, 2)])]
        self.assertEqual(told, [True, False, True, False])

    def test_rests(self):
        told = [is_at_rest(six), trouble(six), heavy_lot(six), ailing(four), heavy_lot(four)]
        self.assertEqual(told, [True, 0, (0, 4, 5), (0, 1, 2, 3), (0,)])
        self.assertEqual(calmed(four), ([0, 1], ((0, -1, 1, 1), (-1, 0, 1, 1), (1, 1, 0, -1), (1, 1, -1, 0))))
        told = [calming_lengths(four), rest_count(four), nth_rest(four, 0), is_calming(four, [3, 0]),
                is_calming(four, [0]), is_calming(tri, [])]
        self.assertEqual(told, [(2, 2), 6, (0, 1), True, False, True])

    def test_lumps(self):
        told = [lumps(bow), joints(bow), lump_troubles(bow)]
        self.assertEqual(told, [[(0, 1, 2), (2, 3, 4)], (2,), [((0, 1, 2), 1), ((2, 3, 4), 0)]])
        told = [bad_ring_at(bow, (0, 1)), bad_ring_at(bow, (2, 3)), good_ring_at(bow, (0, 1)),
                good_ring_at(bow, (2, 3))]
        self.assertEqual(told, [(0, 1, 2), None, None, (2, 3, 4)])
        told = [common_ties(bow), common_places(bow), least_leaving(bow), least_leaving(four), bad_pair(four)]
        self.assertEqual(told, [[(0, 1), (0, 2), (1, 2)], (0, 1, 2), (0,), (0, 1), None])

    def test_tight(self):
        told = [tie_kinds(roof), least_cures(roof), tie_kinds(bow), is_tight(bow), is_tight(tri)]
        self.assertEqual(told, [("held", "idle", "idle", "idle", "idle"), [((0, 1),)],
                                ("loose", "loose", "loose", "idle", "idle", "idle"), False, True])
        self.assertEqual(web_text(tight_part(bow)), ".++../+.-../+-.../...../.....")

    def test_free_sets(self):
        told = [is_free(trio, ((0, 1), (0, 2), (1, 2))), rank_of(trio, ((0, 1),)), free_counts(trio),
                bind_in(trio, ((0, 1), (1, 2)))]
        self.assertEqual(told, [True, 1, [1, 3, 3, 1], None])
        told = [first_free(amity), bind_in(amity, ((0, 1), (0, 2), (1, 2))), free_counts(amity)]
        self.assertEqual(told, [((0, 1), (0, 2)), ((0, 1), (0, 2), (1, 2)), [1, 3, 3]])
        told = [first_free(knot), rank_of(knot, ((0, 1), (0, 2), (1, 2), (3, 4)))]
        self.assertEqual(told, [((0, 1), (0, 2), (1, 2), (2, 3), (2, 4)), 4])
        told = [is_bind(knot, ((0, 1), (0, 2), (1, 2), (2, 3), (2, 4), (3, 4))),
                is_bind(knot, ((0, 1), (0, 2), (1, 2)))]
        self.assertEqual(told, [True, False])
        self.assertEqual(bind_with(amity, ((0, 1), (0, 2)), (1, 2)), ((0, 1), (0, 2), (1, 2)))
        with self.assertRaises(InvalidTie):
            bind_with(amity, ((0, 1), (0, 2), (1, 2)), (0, 1))
        told = [lightest_free(amity, (5, 1, 3)), is_lightest(amity, (5, 1, 3), ((0, 1), (0, 2)))]
        self.assertEqual(told, [(4, ((0, 2), (1, 2))), False])

    def test_weights(self):
        told = [free_weight(trio), free_weight(trio, (0,)), weight_sums(trio), weight_sums(amity), tree_count(trio)]
        self.assertEqual(told, [4, 3, [4, 9, 6, 1], [0, 9, 6, 1], 3])
        told = [tie_table(trio), free_weight(trio, (0, 1, 2)), free_weight(knot)]
        self.assertEqual(told, [((2, 1, 1), (1, 2, 1), (1, 1, 2)), 1, 24])

    def test_threes(self):
        self.assertEqual(bad_threes(trio), ((0, 1, 2),))
        told = [bad_at_ties(five), is_steady(five), len(bad_threes(five)), len(keeping_rows(five))]
        self.assertEqual(told, [(2,) * 15, True, 10, 60])
        told = [odd_four(4, ((0, 1, 2),)), is_even(4, ((0, 1, 2), (0, 1, 3))), is_even(4, [(0, 1, 2), (0, 1, 3)]),
                even_count(5)]
        self.assertEqual(told, [(0, 1, 2, 3), True, False, 64])
        self.assertEqual(web_text(web_of_threes(4, ((0, 1, 2), (0, 1, 3)))), ".+++/+.--/+-.+/+-+.")
        told = [threes_number(4, ((0, 1, 2), (0, 1, 3))), nth_threes(4, 6), nth_threes(4, 8)]
        self.assertEqual(told, [6, ((0, 1, 2), (0, 1, 3)), None])
        self.assertEqual(lot_for_row(five, (0, 2, 3, 4, 5, 1)), ())
        self.raises(NotAllTied, "tie", (0, 3), bad_threes, knot)

    def test_dyes(self):
        told = [polynomial(bad), polynomial(bad, nonzero=True), polynomial(good), dyeing_count(bad, 1),
                dyeing_count(bad, 1, nonzero=True)]
        self.assertEqual(told, [[-1, 3, -3, 1], [0, 3, -3, 1], [0, 2, -3, 1], 8, 2])
        told = [first_dyeing(bad, 1), first_dyeing(bad, 1, nonzero=True), least_width(good),
                least_width(good, nonzero=True), first_dyeing(good, 0)]
        self.assertEqual(told, [(-1, 0, -1), (-1, 1, -1), 1, 2, None])

    def test_choices(self):
        told = [choice_by(bad, (1, -2, 3)), stands(good, (1, -1, 1)), stop(good, (1, -1, 1)), standing_count(bad),
                standing_count(good)]
        self.assertEqual(told, [(1, 1, -1), False, (1, 1, 1), 8, 6])
        told = [gates(good, (1, 1, 1)), turned_choice(bad, (1, 1, -1), (0,)),
                is_gate_row(good, (1, 1, 1), (-1, 1, 1), [(0, 1)]), pair_count(bad, 0)]
        self.assertEqual(told, [[(0, 1), (1, 2)], (-1, -1, -1), True, 8])
        self.assertIn(standing_row(web_told(".-/-."), (-1,)), [(-1, -2), (-2, -1), (-2, 1), (1, -2)])

    def test_doubled(self):
        told = [doubled(bent)[1], sheet_pieces(bent), sheet_pieces(tri), walk_sign(tri, (0, 1, 2, 0)),
                lifted(tri, (0, 1, 2, 0), 0)]
        self.assertEqual(told, [(1, 0, 0, 0, 0, 1), [(0, 1, 5), (2, 3, 4)], [(0, 1, 2, 3, 4, 5)], -1, (0, 4, 5, 3)])
        told = [dropped(tri, (0, 4, 5, 3)), step_table(tri, 0), walk_counts(tri, 0, 0, 3), doubled_tree_count(tri)]
        self.assertEqual(told, [(0, 1, 2, 0), [(0, 3), (2, 1), (1, 2)], (0, 2), 6])
        told = [twin_maps(doubled(tri)), web_of_twins(doubled(tri), (3, 4, 5, 0, 1, 2)) == tri]
        self.assertEqual(told, [[(3, 4, 5, 0, 1, 2)], True])

    def test_joining(self):
        told = [web_text(drawn(bent, (1, 2))), web_text(parted_tie(bent, (1, 2))), trimmed(bent), trimmed(tri)]
        self.assertEqual(told, [".+/+.", ".+../+..+/...-/.+-.", (), (0, 1, 2)])
        self.assertEqual(web_text(put_in(web_told(".+/+."), 1, web_told(".-/-."))), ".++/+.-/+-.")
        self.raises(NotBalanced, "ring", (0, 1, 2), drawn, tri, (0, 2))

    def test_live(self):
        live = Live(web_told(".+-/+.+/-+."))
        self.assertEqual([live.view == live.web, live.turned, live.troubles(), live.view_foes()], [True, (), [1], [1]])
        told = [live.flip(0, 1), live.row(0), live.turned, live.troubles(), live.view_foes()]
        self.assertEqual(told, [-1, (0,), (0,), [1, 0], [1, 0]])
        told = [live.come((0,), (2,)), live.would(("untie", 0, 3)), live.moments()]
        self.assertEqual(told, [3, (0, 0, ()), [(0,), (1,), (2,)]])
        told = [live.turn((0, 3)), live.turned, live.row(2), live.moments()]
        self.assertEqual(told, [None, (), (), [(0,), (1,), (2, 3)]])
        with self.assertRaises(Refused):
            live.shake((1,))
        tight = LimitedLive(web_told(".+/+."), 0)
        self.assertEqual([tight.come((0,), ()), tight.tie(1, 2, 1), tight.limit], [2, None, 0])
        self.raises(OverLimit, "count", 1, tight.flip, 1, 2)

    def test_paper_texts(self):
        told = [paper_text(("camp", web_told(".-/-."), (0,))), paper_told("r;.+-/+.+/-+.;012")]
        self.assertEqual(told, ["c;.-/-.;0", ("ring", ((0, 1, -1), (1, 0, 1), (-1, 1, 0)), (0, 1, 2))])
        self.raises(InvalidText, "index", 9, paper_told, "c;.-/-.;10")
        self.raises(NotShown, "ties", ((0, 1),), paper_told, "c;.-/-.;")
        self.raises(InvalidText, "index", 15, paper_told, "r;.+-/+.+/-+.;02")
        told = ("turned", ((0, 1), (1, 0)), ((0, -1), (-1, 0)), (1,))
        self.assertEqual(paper_told("t;.+/+.;.-/-.;1"), told)

    def test_console(self):
        console = Console()
        told = console.execute("run web a .+-/+.+/-+.; flip 0 1; come +0 -2; troubles; turned; journal")
        self.assertEqual(told, "ok; -; 3; 1 0 0; 0 3; web a .+-/+.+/-+.; flip 0 1; come +0 -2")
        told = [console.execute("paper"), console.execute("undo"), console.execute("row 0"), console.execute("limit")]
        self.assertEqual(told, ["c;.--+/-.+./-+.-/+.-.;03", "come +0 -2", "0", "none"])
        with self.assertRaises(Refused):
            console.execute("relax 4")


if __name__ == "__main__":
    unittest.main()
