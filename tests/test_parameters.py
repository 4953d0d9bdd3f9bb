"""Names and sequence of parameters, their errors, and what calls leave as it is."""

import copy
import importlib
import inspect
import os
import subprocess
import sys
import unittest

from signrounds import alike, choices, doubled, dyes, errors, free_sets, joining, round_signs, threes, trouble, webs
from tests.calls import CALLS, CALM, DEFAULTS, FULL, WEB, good_call, many_values
from tests.samples import circle_web, empty_web, full_web

INTERFACE = {
    "webs": """is_web(value) ties(web) foes(web) neighbours(web,place,sign=0) turned(web,lot) changed(web,tie)
        opposite(web) with_tie(web,place,other_place,sign) less_tie(web,tie) pieces(web,lot=()) inner(web,lot)
        renamed(web,row) beside(web,other_web) first_forest(web) is_ring(web,value) ring_told(web,row)
        ring_ties(web,ring) ring_sign(web,ring) rings(web) bad_rings(web) web_text(web) web_told(text)""",
    "camps": """is_balanced(web) is_camp(web,lot) camp(web) camps(web) bad_ring(web) is_bad_ring(web,value)
        balanced_pieces(web) by_camp(web,lot)""",
    "alike": """are_alike(web,other_web) product(web,other_web) turning_between(web,other_web)
        turnings_between(web,other_web) unlike_ring(web,other_web) is_unlike_ring(web,other_web,value) form(web)
        form_turning(web) kin_row(web,other_web) kin_count(web)""",
    "round_signs": """round_signs(web) web_by_signs(web,signs) is_theta(web,value) own_rounds(web)
        web_by_own(web,signs) ring_sum(web,ring) sum_row(web,rings,ring) is_sum_row(web,rings,ring,value)
        count_with(web,rings,signs) class_with(web,rings,signs) clash(web,rings,signs)
        is_clash(web,rings,signs,value)""",
    "classes": """class_count(web) class_size(web) class_number(web) nth_class(web,number) member_number(web)
        nth_member(web,number) foe_counts(web) even_members(web) changed_to(web,other_web)
        class_gap(web,other_web)""",
    "class_numbers": "least_kin(web) kind_count(web)",
    "trouble": """trouble(web) wrong_ties(web,lot) best_camp_count(web) nth_best_camp(web,number) is_cure(web,ties)
        least_cures(web) least_bearing(web,tie,sign) is_apart(web,value) most_apart(web)""",
    "rests": """ailing(web) is_at_rest(web) heavy_lot(web) is_calming(web,value) calmed(web) calming_lengths(web)
        rest_count(web) nth_rest(web,number)""",
    "lumps": """lumps(web) joints(web) lump_troubles(web) bad_ring_at(web,tie) good_ring_at(web,tie) common_ties(web)
        common_places(web) least_leaving(web) bad_pair(web)""",
    "tight": "tie_kinds(web) is_tight(web) tight_part(web)",
    "free_sets": """is_free(web,ties) rank_of(web,ties) first_free(web) bind_in(web,ties) is_bind(web,value)
        bind_with(web,ties,tie) lightest_free(web,weights) is_lightest(web,weights,ties) free_counts(web)""",
    "weights": "free_weight(web,lot=()) weight_sums(web) tie_table(web) tree_count(web)",
    "threes": """bad_threes(web) is_even(many,value) odd_four(many,threes) web_of_threes(many,threes)
        seen_from(web,place) even_count(many) threes_number(many,threes) nth_threes(many,number) bad_at_ties(web)
        is_steady(web) lot_for_row(web,row) keeping_rows(web)""",
    "dyes": """is_dyeing(web,count,value,nonzero=False) dyeing_count(web,count,nonzero=False)
        first_dyeing(web,count,nonzero=False) least_width(web,nonzero=False) polynomial(web,nonzero=False)""",
    "choices": """is_choice(web,value) choice_by(web,row) stands(web,choice) standing_row(web,choice) stop(web,choice)
        is_standing_row(web,choice,value) is_stop(web,choice,value) standing_count(web) standing_choices(web)
        turned_choice(web,choice,lot) gates(web,choice) gate_row(web,choice,other_choice)
        is_gate_row(web,choice,other_choice,value) pair_count(web,count,nonzero=False)""",
    "doubled": """doubled(web) is_doubled(value) undoubled(table) sheet_pieces(web) walk_sign(web,walk)
        lifted(web,walk,place) dropped(web,walk) shortest_walk(web,place,goal,sign) step_table(web,place)
        walk_counts(web,place,goal,number) doubled_tree_count(web) is_twin_map(table,value) twin_maps(table)
        web_of_twins(table,row)""",
    "joining": """joined_at(web,other_web,place,spot) joined_all(web,other_web,sign) put_in(web,place,other_web)
        parted_tie(web,tie) with_place(web,signs) less_place(web,place) drawn(web,tie) trimmed(web)""",
    "live": "replay(web,deeds,*,limit=None)",
    "paper_texts": "is_paper(value) paper_text(value) paper_told(text)",
}
ROOT = os.path.dirname(os.path.dirname(os.path.abspath(__file__)))
# These have tests of their own in the place of a call here.
ELSEWHERE = ["web_told", "paper_text", "paper_told", "replay"]
PLAIN_TABLES = [repr(table) for table in (
    empty_web(1), empty_web(10), FULL, CALM, doubled.doubled(WEB), doubled.doubled(circle_web(10, True)))]


def outcome(function, *values, **named):
    """What a call tells, or the error with its fields, told with the kinds."""
    try:
        return repr(function(*values, **named))
    except errors.SignError as error:
        return (type(error).__name__, repr(vars(error)))


def lists_in(value):
    """All lists in a value."""
    if isinstance(value, list):
        yield value
    if isinstance(value, (list, tuple)):
        for part in value:
            yield from lists_in(part)


class Interface(unittest.TestCase):
    def test_each_function_stands_in_its_file_with_its_parameters(self):
        for name, told in INTERFACE.items():
            module = importlib.import_module("signrounds." + name)
            for line in told.split():
                function = getattr(module, line.split("(")[0])
                self.assertEqual(function.__module__, "signrounds." + name)
                shape = str(inspect.signature(function)).replace(" ", "")
                self.assertEqual(function.__name__ + shape, line)

    def test_each_function_is_called_here(self):
        told = [line.split("(")[0] for lines in INTERFACE.values() for line in lines.split()]
        self.assertEqual(sorted(told), sorted([function.__name__ for function, _ in CALLS] + ELSEWHERE))


class Calls(unittest.TestCase):
    def test_by_position_and_by_name(self):
        for function, parameters in CALLS:
            names = [parameter[0] for parameter in parameters]
            values = good_call(function)
            told = outcome(function, *values)
            self.assertNotIsInstance(told, tuple, function.__name__)
            self.assertEqual(outcome(function, **dict(zip(names, values))), told)
            self.assertEqual(outcome(function, **dict(zip(names[::-1], values[::-1]))), told)
            self.assertEqual(outcome(function, values[0], **dict(zip(names[1:], values[1:]))), told)
        self.assertEqual(webs.web_told(text=webs.web_text(WEB)), WEB)

    def test_defaults(self):
        for function, parameters in CALLS:
            values = good_call(function)
            if (function.__name__, parameters[-1][0]) in DEFAULTS:
                values[-1] = DEFAULTS[(function.__name__, parameters[-1][0])]
                self.assertEqual(outcome(function, *values[:-1]), outcome(function, *values))

    def test_wrong_values_of_each_parameter_whatever_follows(self):
        for function, parameters in CALLS:
            for at, (name, _, error, wrong) in enumerate(parameters):
                before = good_call(function)[:at]
                for value in wrong:
                    behind = [good for _, good, _, _ in parameters[at + 1:]]
                    spoilt = [bad[0] if bad else None for _, _, _, bad in parameters[at + 1:]]
                    for others in (behind, spoilt):
                        with self.assertRaises(error, msg=(function.__name__, name, value)) as caught:
                            function(*before, value, *others)
                        self.assertIs(type(caught.exception), error)

    def test_any_value_where_a_web_is_asked_for(self):
        for function, parameters in CALLS:
            if parameters[0][0] == "web":
                for value in many_values():
                    if not webs.is_web(value):
                        with self.assertRaises(errors.InvalidWeb):
                            function(value, *good_call(function)[1:])

    def test_any_value_where_a_table_is_asked_for(self):
        for function, parameters in CALLS:
            if parameters[0][0] == "table":
                for value in many_values():
                    if repr(value) not in PLAIN_TABLES:
                        with self.assertRaises(errors.InvalidTable):
                            function(value, *good_call(function)[1:])

    def test_any_value_for_each_parameter_ends_in_a_result_or_a_sign_error(self):
        for function, parameters in CALLS:
            for at, (name, _, error, _) in enumerate(parameters):
                for value in many_values():
                    values = good_call(function)
                    values[at] = value
                    kept = copy.deepcopy(values)
                    told = outcome(function, *values)
                    self.assertEqual(repr(values), repr(kept))
                    if name == "value":
                        self.assertIn(told, ("True", "False"))

    def test_arguments_stay_and_lists_are_new(self):
        for function, _ in CALLS:
            values = good_call(function)
            kept = copy.deepcopy(values)
            told = function(*values)
            for one in lists_in(told):
                one.append("more")
                one.reverse()
            self.assertEqual(repr(values), repr(kept))
            again = function(*values)
            self.assertEqual(repr(again), outcome(function, *kept))
            self.assertNotIn("more", repr(again))

    def test_equal_calls_tell_the_same_in_another_process(self):
        program = "from tests.test_parameters import CALLS, outcome, good_call\n"
        program += "for function, _ in CALLS: print(outcome(function, *good_call(function)))"
        told = []
        for seed in ("0", "1"):
            done = subprocess.run([sys.executable, "-c", program], capture_output=True, text=True, check=True, cwd=ROOT,
                                  env=dict(os.environ, PYTHONHASHSEED=seed))
            told.append(done.stdout.splitlines())
        self.assertEqual(told[0], told[1])
        self.assertEqual(told[0], [outcome(function, *good_call(function)) for function, _ in CALLS])

    def test_errors_of_a_point_come_behind_those_of_all_parameters(self):
        great, small = full_web(8, 1), full_web(3, -1)
        for error, function, *values in (
            (errors.InvalidSign, webs.with_tie, WEB, 0, 1, 2),
            (errors.InvalidPlace, webs.with_tie, WEB, 0, 0, 2),
            (errors.Refused, webs.with_tie, WEB, 0, 1, 1),
            (errors.InvalidWeb, webs.beside, great, (great,)),
            (errors.TooMany, webs.beside, great, small),
            (errors.InvalidWeb, alike.kin_row, great, None),
            (errors.InvalidWeb, alike.kin_row, None, great),
            (errors.TooMany, alike.kin_row, small, great),
            (errors.InvalidWeb, alike.product, great, ()),
            (errors.NotAlike, alike.product, great, small),
            (errors.TooMany, round_signs.web_by_signs, great, None),
            (errors.InvalidSigns, round_signs.web_by_signs, small, (1, 1)),
            (errors.InvalidRings, round_signs.count_with, small, ((0, 2, 1),), (1, 1)),
            (errors.InvalidSigns, round_signs.count_with, small, ((0, 1, 2),), (1, 1)),
            (errors.InvalidRings, round_signs.sum_row, small, ((0, 2, 1),), (0, 2, 1)),
            (errors.InvalidRing, round_signs.sum_row, small, ((0, 1, 2),), (0, 2, 1)),
            (errors.InvalidTie, trouble.least_bearing, small, (0, 3), 0),
            (errors.InvalidSign, trouble.least_bearing, small, (0, 2), 0),
            (errors.InvalidTies, free_sets.bind_with, small, ((1, 0),), (0, 0)),
            (errors.InvalidTie, free_sets.bind_with, full_web(3, 1), ((0, 1), (0, 2), (1, 2)), (0, 1)),
            (errors.InvalidWeights, free_sets.is_lightest, small, (1, 1), ((0, 0),)),
            (errors.InvalidTies, free_sets.is_lightest, small, (1, 1, 1), ((0, 0),)),
            (errors.InvalidCount, threes.threes_number, 11, ((0, 1, 1),)),
            (errors.InvalidThrees, threes.threes_number, 4, ((0, 1, 1),)),
            (errors.NotEven, threes.threes_number, 4, ((0, 1, 2),)),
            (errors.InvalidCount, threes.nth_threes, 0, -1),
            (errors.InvalidPlace, threes.seen_from, circle_web(4, True), 4),
            (errors.NotAllTied, threes.seen_from, circle_web(4, True), 3),
            (errors.InvalidRow, threes.lot_for_row, circle_web(4, True), (0, 1, 2)),
            (errors.NotAllTied, threes.lot_for_row, circle_web(4, True), (0, 1, 2, 3)),
            (errors.NotAllTied, threes.keeping_rows, circle_web(8, True)),
            (errors.TooMany, threes.keeping_rows, great),
            (errors.InvalidCount, dyes.is_dyeing, small, 1001, None),
            (errors.InvalidChoice, choices.is_stop, small, (1, 1), None),
            (errors.InvalidChoice, choices.turned_choice, small, (1, 1), (3,)),
            (errors.InvalidLot, choices.turned_choice, small, (1, 1, 1), (3,)),
            (errors.InvalidChoice, choices.gate_row, full_web(3, 1), (1, -1, 1), (1, 1)),
            (errors.NotStanding, choices.gate_row, full_web(3, 1), (1, -1, 1), (1, 1, 1)),
            (errors.NotStanding, choices.gate_row, full_web(3, 1), (1, 1, 1), (1, -1, 1)),
            (errors.InvalidWalk, doubled.lifted, small, (0, 0), 9),
            (errors.InvalidPlace, doubled.lifted, small, (0, 1), 1),
            (errors.InvalidPlace, doubled.shortest_walk, small, 3, None, 0),
            (errors.InvalidPlace, doubled.shortest_walk, small, 0, 3, 0),
            (errors.InvalidSign, doubled.shortest_walk, small, 0, 0, 0),
            (errors.InvalidPlace, doubled.walk_counts, small, 0, 3, 61),
            (errors.InvalidCount, doubled.walk_counts, small, 0, 0, 61),
            (errors.InvalidTable, doubled.twin_maps, full_web(10, -1)),
            (errors.TooMany, doubled.twin_maps, doubled.doubled(circle_web(6, True))),
            (errors.InvalidTable, doubled.web_of_twins, full_web(2, -1), (0, 1)),
            (errors.InvalidRow, doubled.web_of_twins, doubled.doubled(great), (0, 1)),
            (errors.InvalidWeb, joining.joined_at, great, None, 8, 0),
            (errors.InvalidPlace, joining.joined_at, great, small, 8, 3),
            (errors.InvalidPlace, joining.joined_at, small, great, 2, 8),
            (errors.TooMany, joining.joined_at, great, full_web(4, 1), 7, 3),
            (errors.InvalidSign, joining.joined_all, great, small, 0),
            (errors.TooMany, joining.joined_all, great, small, 1),
            (errors.InvalidPlace, joining.put_in, great, 8, None),
            (errors.InvalidWeb, joining.put_in, great, 7, None),
            (errors.TooMany, joining.put_in, great, 7, full_web(4, 1)),
            (errors.InvalidTie, joining.parted_tie, full_web(10, 1), (0, 10)),
            (errors.TooMany, joining.parted_tie, full_web(10, 1), (0, 9)),
            (errors.InvalidSigns, joining.with_place, full_web(10, 1), (0,) * 11),
            (errors.TooMany, joining.with_place, full_web(10, 1), (0,) * 10),
            (errors.InvalidPlace, joining.less_place, empty_web(1), 0),
            (errors.InvalidTie, joining.drawn, small, (1, 0)),
            (errors.NotBalanced, joining.drawn, small, (0, 1)),
        ):
            with self.assertRaises(error, msg=function.__name__):
                function(*values)

    def test_a_hundred_and_one_rounds(self):
        ring = ((0, 1, 2),)
        self.assertEqual(round_signs.count_with(WEB, ring * 100, (1,) * 100), 1)
        with self.assertRaises(errors.InvalidRings):
            round_signs.count_with(WEB, ring * 101, (1,) * 101)

    def test_text(self):
        for value in (None, True, 0, (), [], (".",), [".", "/"], ((0,),), b"."):
            with self.assertRaises(errors.InvalidText) as caught:
                webs.web_told(value)
            self.assertEqual(caught.exception.index, 0)


if __name__ == "__main__":
    unittest.main()
