"""Calls with 10 places end within some seconds, whatever the ties."""

import time
import unittest

from signrounds import alike, camps, choices, class_numbers, classes, doubled, dyes, free_sets, joining, lumps
from signrounds import paper_texts, rests, round_signs, threes, trouble, webs, weights
from signrounds.console import Console
from signrounds.errors import SignError
from signrounds.live import LimitedLive, Live, replay
from tests.calls import CALLS
from tests.counts import turned_anew
from tests.plain_live import Situation, answer_or_error, drawn_deed
from tests.samples import Draw, circle_web, drawn_webs, empty_web, full_web, pairs_tied

SECONDS = 5


def webs_of(many):
    draw = Draw(111)
    told = [full_web(many, 1), full_web(many, -1), empty_web(many), circle_web(many, True), circle_web(many, False)]
    return told + [draw.resigned(full_web(many, 1)), *drawn_webs(111, 4, many, many)]


class Times(unittest.TestCase):
    def quick(self, function, *values):
        begin = time.perf_counter()
        try:
            return function(*values)
        except SignError:
            return None
        finally:
            self.assertLess(time.perf_counter() - begin, SECONDS, function.__name__)

    def test_of_one_web_and_of_two(self):
        draw = Draw(112)
        for many in (5, 6, 7, 10):
            for web in webs_of(many):
                likes = [turned_anew(web, draw.lot(many)), draw.resigned(web), empty_web(many)]
                for function, parameters in CALLS:
                    names = [parameter[0] for parameter in parameters]
                    if names == ["web"]:
                        self.quick(function, web)
                    if names == ["web", "other_web"]:
                        for other in likes:
                            self.quick(function, web, other)

    def test_of_ten_places_with_more(self):
        draw = Draw(113)
        everywhere = tuple(range(10))
        for web in webs_of(10):
            own = tuple(round_signs.own_rounds(web))
            rings = tuple(draw.one(own) for _ in range(100)) if own else ()
            signs = tuple(draw.one((1, -1)) for _ in rings)
            for function in (round_signs.count_with, round_signs.class_with, round_signs.clash):
                self.quick(function, web, rings, signs)
            for value in (tuple(range(100)), everywhere, (0,) * 3000):
                self.quick(round_signs.is_clash, web, rings, signs, value)
                self.quick(webs.is_ring, web, value)
                self.quick(camps.is_bad_ring, web, value)
                self.quick(alike.is_unlike_ring, web, web, value)
                self.quick(round_signs.is_theta, web, (value, value, value))
            for ring in own[-2:]:
                self.quick(round_signs.sum_row, web, rings, ring)
                self.quick(round_signs.is_sum_row, web, rings, ring, tuple(range(100)))
                self.quick(round_signs.ring_sum, web, ring)
            self.quick(round_signs.web_by_own, web, (-1,) * len(own))
            for number in (0, 1, 511, 512, 10**89):
                self.quick(classes.nth_class, web, number)
                self.quick(classes.nth_member, web, number)
            for lot in ((), everywhere, (0, 5)):
                self.quick(webs.pieces, web, lot)
                self.quick(camps.by_camp, web, lot)
                self.quick(camps.is_camp, web, lot)

    def test_of_ten_places_with_a_tie_or_a_number(self):
        for web in webs_of(10):
            told = tuple(pairs_tied(web))
            for tie in told[::4] + told[-1:]:
                for function in (lumps.bad_ring_at, lumps.good_ring_at):
                    self.quick(function, web, tie)
                for sign in (1, -1):
                    self.quick(trouble.least_bearing, web, tie, sign)
            for number in (0, 1, 10**89):
                self.quick(trouble.nth_best_camp, web, number)
                self.quick(rests.nth_rest, web, number)
            for some in ((), told, told[::2]):
                self.quick(trouble.is_cure, web, some)
            for value in ([], [0] * 3000, [(0, 1, 2)] * 700, [tuple(range(10))] * 200, list(range(10)) * 300):
                self.quick(trouble.is_apart, web, value)
                self.quick(rests.is_calming, web, value)

    def test_of_ten_places_with_sets_of_ties_and_lots(self):
        draw = Draw(115)
        for web in webs_of(10):
            told = tuple(pairs_tied(web))
            some = tuple(tie for tie in told if draw.below(2))
            worths = ((0,) * len(told), tuple(draw.below(1000001) for _ in told))
            first = free_sets.first_free(web)
            for ties in ((), told, some, first):
                for function in (free_sets.is_free, free_sets.rank_of, free_sets.bind_in, free_sets.is_bind):
                    self.quick(function, web, ties)
                for tie in told[::9]:
                    self.quick(free_sets.bind_with, web, ties, tie)
                for worth in worths:
                    self.quick(free_sets.is_lightest, web, worth, ties)
            for worth in worths:
                self.quick(free_sets.lightest_free, web, worth)
            for lot in ((), (0,), (3, 7), tuple(range(10))):
                self.quick(weights.free_weight, web, lot)

    def test_of_ten_places_with_numbers(self):
        many_tied = [Draw(tied).web(10, tied, foes) for tied in (50, 70, 85) for foes in (0, 20, 50)]
        for web in webs_of(10) + many_tied:
            for nonzero in (False, True):
                self.quick(dyes.polynomial, web, nonzero)
                least = self.quick(dyes.least_width, web, nonzero)
                for count in (0, least, least - 1 if least else 0, least + 1, 1000):
                    self.quick(dyes.first_dyeing, web, count, nonzero)
                    self.quick(dyes.dyeing_count, web, count, nonzero)
                    self.quick(choices.pair_count, web, count, nonzero)
                for value in ((0,) * 10, (1,) * 10, tuple(range(10)), (0,) * 3000):
                    self.quick(dyes.is_dyeing, web, 1000, value, nonzero)

    def test_of_ten_places_with_choices(self):
        draw = Draw(116)
        for web in webs_of(10):
            down = choices.choice_by(web, tuple(range(1, 11)))
            up = choices.choice_by(web, (-3, -1, 2, 9, -8, 6, -4, 10, 5, 7))
            drawn = tuple(draw.one((1, -1)) for _ in down)
            for choice in (down, up, drawn):
                for function in (choices.stands, choices.standing_row, choices.stop, choices.gates):
                    self.quick(function, web, choice)
                for other in (down, up, drawn):
                    row = self.quick(choices.gate_row, web, choice, other)
                    for value in (row, pairs_tied(web), [(0, 1)] * 1000):
                        self.quick(choices.is_gate_row, web, choice, other, value)

    def test_of_ten_places_doubled(self):
        for web in webs_of(10):
            table = self.quick(doubled.doubled, web)
            self.quick(doubled.is_doubled, table)
            self.quick(doubled.undoubled, table)
            walk = [0]
            while len(walk) < 3000:
                walk.append([place for place, sign in enumerate(web[walk[-1]]) if sign or not any(web[0])][0])
            self.quick(doubled.walk_sign, web, tuple(walk))
            self.quick(doubled.dropped, web, self.quick(doubled.lifted, web, tuple(walk), 10))
            for goal in (0, 9):
                self.quick(doubled.walk_counts, web, 0, goal, 60)
                self.quick(doubled.shortest_walk, web, 0, goal, -1)
            row = tuple(range(10, 20)) + tuple(range(10))
            self.quick(doubled.is_twin_map, table, row)
            self.quick(doubled.web_of_twins, table, row)
            self.quick(doubled.step_table, web, 0)
        for web in webs_of(5):
            self.quick(doubled.twin_maps, doubled.doubled(web))

    def test_joining_of_ten_places(self):
        for web in webs_of(10):
            for tie in pairs_tied(web)[::5]:
                self.quick(joining.drawn, web, tie)
            self.quick(joining.less_place, web, 3)
        for web in webs_of(5):
            for sign in (1, -1):
                self.quick(joining.joined_all, web, web, sign)
            self.quick(joining.joined_at, web, webs_of(6)[0], 4, 5)
            self.quick(joining.put_in, web, 2, webs_of(6)[1])

    def test_papers_of_ten_places(self):
        for web in webs_of(10):
            for value in (("camp", web, self.quick(camps.camp, web)), ("ring", web, self.quick(camps.bad_ring, web)),
                          ("turned", web, turned_anew(web, (0, 3)), (0, 3)), ("unlike", web, web, tuple(range(10)))):
                self.quick(paper_texts.is_paper, value)
                self.quick(paper_texts.paper_told, self.quick(paper_texts.paper_text, value))
            text = webs.web_text(web)
            for told in (f"r;{text};0987654321", f"u;{text};{text};0123456789", "c;" + "." * 19000, "r;" * 10000):
                self.quick(paper_texts.paper_told, told)

    def with_deeds(self, draw, live, most):
        """Do drawn deeds, each of them in a short time."""
        while len(live.deeds) < most:
            # Marks of places that came stand for the places at the start.
            deed = drawn_deed(draw, Situation(live.web, None), False, 0)
            values = [tuple(live.marks[at] for at in value) if isinstance(value, tuple) else value
                      for value in deed[1:]]
            marks = 0 if deed[0] in ("come", "turn", "shake") else 1 if deed[0] == "leave" else 2
            values[:marks] = [live.marks[at] for at in values[:marks]]
            if deed[0] != "leave" or len(live.marks) > 8:
                self.quick(live.would, (deed[0], *values))
                self.quick(getattr(live, deed[0]), *values)

    def test_live_webs_of_ten_places_behind_sixty_deeds(self):
        draw = Draw(117)
        for web in webs_of(10)[::2]:
            limited = LimitedLive(web, 45)
            for live in (Live(web), limited):
                live.begin()
                self.with_deeds(draw, live, 60)
                for function in (live.troubles, live.view_foes, live.moments, live.twin):
                    self.quick(function)
                self.assertTrue(live == self.quick(live.twin))
                self.quick(replay, web, live.deeds)
                self.quick(live.undo)
                self.quick(live.drop)
            self.quick(limited.relax, 44)

    def test_a_run_of_64_commands_of_ten_places(self):
        draw = Draw(118)
        text = webs.web_text(full_web(10, -1))
        ties = pairs_tied(full_web(10, -1))
        for questions in (["troubles"], ["moments", "foes", "paper", "journal"], ["twin b", "same b"], ["flip 0 1"]):
            commands = [f"limited a 45 {text}", "twin b"]
            while len(commands) < 64:
                commands.append("flip {} {}".format(*draw.one(ties)) if draw.below(2) else draw.one(questions))
            for last in ([], ["leave 99"]):
                console = Console()
                self.quick(console.execute, "run " + "; ".join(commands[:64 - len(last)] + last))
                self.assertEqual(answer_or_error(console.execute, "show")[0], "NotReady" if last else "told")

    def test_threes_of_ten_places(self):
        for number in (0, 1, 2**35, 2**36 - 1, 2**36, 10**89):
            even = self.quick(threes.nth_threes, 10, number) or ()
            for some in (even, even[1:]):
                for function in (threes.is_even, threes.odd_four, threes.web_of_threes, threes.threes_number):
                    self.quick(function, 10, some)
        for web in webs_of(10):
            self.quick(threes.lot_for_row, web, (9, 2, 3, 4, 5, 6, 7, 8, 1, 0))
            self.quick(threes.seen_from, web, 9)

    def test_signs_of_all_rounds_of_seven_places(self):
        draw = Draw(114)
        for web in webs_of(7):
            good = round_signs.round_signs(web)
            rows = [good, tuple(-sign for sign in good), tuple(draw.one((1, -1)) for _ in good)]
            rows += [good[:at] + (-good[at],) + good[at + 1:] for at in (0, len(good) // 2, len(good) - 1) if good]
            for signs in rows:
                self.quick(round_signs.web_by_signs, web, signs)

    def test_classes_of_few_places(self):
        for many in (5, 6):
            for web in webs_of(many):
                self.quick(class_numbers.least_kin, web)
                self.quick(class_numbers.kind_count, web)


if __name__ == "__main__":
    unittest.main()
