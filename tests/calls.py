"""Every function of the interface with one good call, and wrong values of each parameter."""

from signrounds import alike, camps, choices, class_numbers, classes, doubled, dyes, errors, free_sets, joining, lumps
from signrounds import paper_texts, rests, round_signs, threes, tight, trouble, webs, weights
from tests.samples import OTHERS, circle_web, empty_web, full_web, nested, web_of

# Four places, of which just 0 and 3, 1 and 3 are not tied; one round, a bad one.
WEB = ((0, -1, 1, 0), (-1, 0, 1, 0), (1, 1, 0, -1), (0, 0, -1, 0))
# The same ties without a foe, and with the round bad by another tie.
CALM = ((0, 1, 1, 0), (1, 0, 1, 0), (1, 1, 0, 1), (0, 0, 1, 0))
LIKE = ((0, 1, -1, 0), (1, 0, 1, 0), (-1, 1, 0, 1), (0, 0, 1, 0))
FULL = full_web(4, 1)
RINGS = ((0, 1, 2), (0, 1, 3), (0, 1, 2))

WRONG_WEBS = [
    None, True, 0, 3, "", ".-/-.", (), [], [[0]], ([0],), ((),), ((1,),), ((-1,),), ((False,),), ((None,),), ((2,),),
    ((0, 1),), ((0,), (0,)), ((0, 1), (-1, 0)), ((0, 2), (2, 0)), ((0, 1), (1, 1)), ((1, 0), (0, 0)),
    ((0, True), (1, 0)), ((0, 1), (True, 0)), ((0, True), (True, 0)), ((False, 1), (1, 0)), [(0, 1), (1, 0)],
    ((0, 1), [1, 0]), ((0, 1, 0), (1, 0, 0)), ((0, 1), (1, 0), (0, 0)), ((0, 1), (1,)), ((0, "1"), ("1", 0)),
    ((0, 10**89), (10**89, 0)), nested(40), nested(40, 0, lambda inside: [inside]), tuple(range(3000)),
    tuple((0,) * 11 for _ in range(11)), tuple((0,) * 10 for _ in range(11)), ((0,) * 3000,),
    ((0, -2), (-2, 0)), ((0, 1, -1), (1, 0, 1), (-1, -1, 0)), ((0, (1,)), ((1,), 0)),
]
WRONG_TIES = [
    None, True, 0, 1, "", "01", (), (0,), (0, 1, 2), [0, 1], (1, 0), (2, 1), (0, 0), (2, 2), (0, 3), (1, 3), (0, 4),
    (3, 4), (-1, 0), (-2, 1), (-4, -3), (True, 2), (False, 1), (0, True), (0, None), ("0", "1"), ((0,), (1,)),
    ((0, 1),), (0, 10**89), nested(40), (0, [1]),
]
WRONG_TIE_SETS = [
    None, True, 0, "", (0, 1), [(0, 1)], [], ((1, 0),), ((0, 3),), ((0, 2), (0, 1)), ((0, 1), (0, 1)), ([0, 1],),
    ((0, 1), (2, 3), (3, 3)), ((0, True),), ((False, 1),), ((0, 1), None), ((0, 1), (2,)), ((0, 1), ()), ((0, 1, 2),),
    (((0, 1),),), ("01",), nested(40), ((0, 1),) * 1000, ((0, 1), (0, 2), (1, 2), (1, 3)), ((-2, -1),), ((0, 10**89),),
    ((),), (0, 1, 2, 3), ((0, 1), [2, 3]), ((0, 1), (3, 2)),
]
WRONG_PLACES = [None, True, False, -1, -4, 4, 10, 10**89, -(10**89), "", "0", (), (0,), [0], nested(40)]
WRONG_LOTS = [
    None, True, 0, "", "01", [], [0], [0, 1], (1, 0), (0, 0), (0, 1, 1), (4,), (0, 4), (-1,), (-1, 0), (True,),
    (False, 2), (0, True), (None,), ("0",), ((),), ((0,),), (0, 1, 2, 3, 4), (10**89,), nested(40), ([0],), (0, None),
]
WRONG_SIGNS_OF_TIES = [None, True, False, 2, -2, 10**89, "", "1", "+", (), (1,), [1], nested(40)]
WRONG_ROWS = [
    None, True, 0, "", "0123", [0, 1, 2, 3], (), (0,), (0, 1, 2), (0, 1, 2, 2), (0, 1, 2, 4), (1, 2, 3, 4),
    (0, 1, 2, 3, 4), (0, 1, 2, 3, 3), (-1, 0, 1, 2), (0, True, 2, 3), (False, 1, 2, 3), (0, 1, 2, None),
    (0, 1, 2, "3"), (0, 1, 2, (3,)), (0, 1, 2, [3]), nested(40), tuple(range(3000)),
]
WRONG_CLOSED = [
    None, True, 0, "", "012", [0, 1, 2], (), (0,), (0, 1), (0, 1, 3), (0, 1, 2, 3), (0, 1, 2, 0), (0, 0, 1, 2),
    (0, 1, 0, 2), (0, 1, 4), (-4, 1, 2), (0, 1, -2), (0, True, 2), (False, 1, 2), (0, 1, "2"), (0, 1, None),
    (0, 1, (2,)), (0, 1, [2]), (0, 1, 10**89), nested(40), tuple(range(3000)),
]
WRONG_RINGS_OF_WEB = WRONG_CLOSED + [(0, 2, 1), (1, 2, 0), (2, 0, 1), (1, 0, 2), (2, 1, 0)]
WRONG_SEVERAL = [
    None, True, 0, "", (0, 1, 2), [(0, 1, 2)], ([0, 1, 2],), ((0, 2, 1),), ((1, 2, 3), (0, 1)), ((0, 1, True),),
    ((0, 1, 2), None), ((0, 1, 2), ()), ((0, 1, 4),), (((0, 1, 2),),), ((0, 1, 2),) * 101, ("012",), nested(40),
    ((False, 1, 2),), ((0, 1, 2), (3, 2, 1)), ((),),
]
WRONG_WEIGHTS = [
    None, True, 0, "", "1234", [1, 2, 3, 4], (), (1, 2, 3), (1, 2, 3, 4, 5), (1, 2, 3, -1), (1000001, 0, 0, 0),
    (0, 0, 0, 10**89), (0, True, 0, 0), (0, 0, 0, False), (0, None, 0, 0), (0, 0, "1", 0), (0, 0, 0, (1,)), ((0,) * 4,),
    (0, 0, 0, [1]), (0,) * 3000, nested(40),
]
WRONG_THREES = [
    None, True, 0, "", (0, 1, 2), [(0, 1, 2)], [], ((0, 1),), ((0, 1, 2, 3),), ((0, 2, 1),), ((0, 1, 1),), ((0, 1, 4),),
    ((-1, 0, 1),), ((0, 1, 2), (0, 1, 2)), ((0, 1, 3), (0, 1, 2)), ([0, 1, 2],), ((0, 1, 2), [0, 1, 3]), ((0, 1, True),),
    ((False, 1, 2),), ((0, 1, None),), ((0, 1, 2), None), ((),), (((0, 1, 2),),), ("012",), ((0, 1, "2"),), nested(40),
    ((0, 1, 2), (1, 2, 4)), ((0, 1, 2),) * 750, ((0, 1, 10**89),), ((0, 1, 2), ()),
]
WRONG_COUNTS = [None, True, False, -1, -(10**89), "", "0", (), (0,), [0], nested(40)]
WRONG_DYEINGS = [
    None, True, 0, "", "1234", [1, 2, 3, 4], (), (1, 2, 3), (1, 2, 3, 4, 5), (1, 2, 1, 4), (1, 1, 1, 4), (1, -1, 3, 4),
    (0, 0, 3, 4), (1, 2, 3, -3), (1, 2, 2, 4), (True, 2, 3, 4), (1, 2, 3, None), (1, 2, 3, "4"), (1, 2, 3, (4,)),
    (1, 2, 3, [4]), ((1, 2, 3, 4),), nested(40), (0,) * 3000, (1, 10**89, 10**89, 4),
]
WRONG_WALKS = [
    None, True, 0, "", "01", (), [0], [0, 1], (0, 0), (0, 3), (0, 1, 3), (0, 1, 2, 2), (4,), (0, 4), (-1,), (0, -2),
    (True,), (False, 1), (0, True), (0, None), (0, "1"), ((0, 1),), (0, (1,)), (0, [1]), (10**89,), nested(40),
    tuple(range(3000)), (0, 1, 10**89), (0, 1) * 1400 + (0, 3), (2, 3, 0),
]
WRONG_DOUBLED_WALKS = [
    None, True, 0, "", "05", (), [0, 5], (0, 1), (0, 4), (0, 0), (0, 6), (4, 5), (2, 3), (0, 7), (8,), (0, 5, 8), (-1,),
    (0, -3), (True,), (False, 5), (4, True), (0, None), (0, "5"), ((0, 5),), (0, (5,)), (0, [5]), nested(40),
    tuple(range(3000)), (10**89,), (0, 5, 6, 7),
]
WRONG_TABLES = [
    None, True, 0, "", "00/00", (), [], [[0]], ([0],), ((),), ((1,),), ((None,),), ((False,),), ((0, 1),), ((0,), (0,)),
    ((0, 1), (0, 0)), ((0, -1), (-1, 0)), ((0, 2), (2, 0)), ((1, 0), (0, 0)), ((0, 1), (1, 1)), ((0, True), (True, 0)),
    ((0, False), (0, 0)), [(0, 1), (1, 0)], ((0, 1), [1, 0]), ((0, 1, 0), (1, 0, 0)), ((0, 1), (1,)), nested(40),
    ((0, "1"), ("1", 0)), ((0, 10**89), (10**89, 0)), web_of(21, {}), ((0,) * 20,) * 21, ((0,) * 3000,),
]


def wrong_signs(many):
    """What is no tuple of so many signs."""
    return [
        None, True, 1, "", "+" * many, [1] * many, (1,) * (many + 1), (1,) * (many - 1) if many else (-1,),
        (1,) * (many - 1) + (0,), (2,) + (1,) * (many - 1), (True,) + (1,) * (many - 1), (1,) * (many - 1) + (None,),
        ("1",) + (1,) * (many - 1), ((1,),) + (1,) * (many - 1), ([1],) + (1,) * (many - 1), nested(40), (1,) * 3000,
        (1,) * (many - 1) + (False,), ((1,) * many,),
    ]


# What stands for a parameter: its name, a good value, the error of wrong ones, wrong ones.
ANY = (0, 1, 2)
PLACE = ("place", 0, errors.InvalidPlace, WRONG_PLACES)
OTHER_PLACE = ("other_place", 3, errors.InvalidPlace, WRONG_PLACES + [0])
TIE = ("tie", (0, 1), errors.InvalidTie, WRONG_TIES)
LOT = ("lot", (0, 2), errors.InvalidLot, WRONG_LOTS)
SIGN = ("sign", 1, errors.InvalidSign, WRONG_SIGNS_OF_TIES + [0])
SIGN_OR_NONE = ("sign", -1, errors.InvalidSign, WRONG_SIGNS_OF_TIES)
RING = ("ring", (0, 1, 2), errors.InvalidRing, WRONG_RINGS_OF_WEB)
NUMBER = ("number", 1, errors.InvalidCount, WRONG_COUNTS)
VALUE = ("value", ANY, None, [])
TIES = ("ties", ((0, 1), (2, 3)), errors.InvalidTies, WRONG_TIE_SETS)
WEIGHTS = ("weights", (3, 0, 1000000, 1), errors.InvalidWeights, WRONG_WEIGHTS)
MANY = ("many", 4, errors.InvalidCount, WRONG_COUNTS + [0, 11, 10**89])
THREES = ("threes", ((0, 1, 2), (0, 1, 3)), errors.InvalidThrees, WRONG_THREES)
SEVERAL = ("rings", RINGS, errors.InvalidRings, WRONG_SEVERAL)
FULL_RING = ("ring", (0, 1, 2), errors.InvalidRing, [one for one in WRONG_RINGS_OF_WEB if one not in
                                                     ((0, 1, 3), (0, 1, 2, 3))])
COUNT = ("count", 2, errors.InvalidCount, WRONG_COUNTS + [1001, 10**89])
NONZERO = ("nonzero", True, None, [])
CHOICE = ("choice", (1, 1, 1, 1), errors.InvalidChoice, wrong_signs(4))
OTHER_CHOICE = ("other_choice", (1, 1, 1, -1), errors.InvalidChoice, wrong_signs(4))
WALK = ("walk", (0, 1, 2, 0), errors.InvalidWalk, WRONG_WALKS)
GOAL = ("goal", 3, errors.InvalidPlace, WRONG_PLACES)
TABLE = ("table", doubled.doubled(WEB), errors.InvalidTable, WRONG_TABLES)
TWINS = (4, 5, 6, 7, 0, 1, 2, 3)
TOLD = ("signs", (1, -1, 1), errors.InvalidSigns, wrong_signs(3))


def web(value=WEB, name="web"):
    return (name, value, errors.InvalidWeb, WRONG_WEBS)


def other(value=LIKE):
    return web(value, "other_web")


CALLS = [
    (webs.is_web, [VALUE]),
    (webs.ties, [web()]),
    (webs.foes, [web()]),
    (webs.neighbours, [web(), PLACE, SIGN_OR_NONE]),
    (webs.turned, [web(), LOT]),
    (webs.changed, [web(), TIE]),
    (webs.opposite, [web()]),
    (webs.with_tie, [web(), PLACE, OTHER_PLACE, SIGN]),
    (webs.less_tie, [web(), TIE]),
    (webs.pieces, [web(), LOT]),
    (webs.inner, [web(), ("lot", (0, 2), errors.InvalidLot, WRONG_LOTS + [()])]),
    (webs.renamed, [web(), ("row", (2, 0, 3, 1), errors.InvalidRow, WRONG_ROWS)]),
    (webs.beside, [web(), other()]),
    (webs.first_forest, [web()]),
    (webs.is_ring, [web(), VALUE]),
    (webs.ring_told, [web(), ("row", (2, 0, 1), errors.InvalidRow, WRONG_CLOSED)]),
    (webs.ring_ties, [web(), RING]),
    (webs.ring_sign, [web(), RING]),
    (webs.rings, [web()]),
    (webs.bad_rings, [web()]),
    (webs.web_text, [web()]),
    (camps.is_balanced, [web()]),
    (camps.is_camp, [web(), LOT]),
    (camps.camp, [web(CALM)]),
    (camps.camps, [web(CALM)]),
    (camps.bad_ring, [web()]),
    (camps.is_bad_ring, [web(), VALUE]),
    (camps.balanced_pieces, [web()]),
    (camps.by_camp, [web(), LOT]),
    (alike.are_alike, [web(), other()]),
    (alike.product, [web(), other()]),
    (alike.turning_between, [web(), other()]),
    (alike.turnings_between, [web(), other()]),
    (alike.unlike_ring, [web(), other(CALM)]),
    (alike.is_unlike_ring, [web(), other(CALM), VALUE]),
    (alike.form, [web()]),
    (alike.form_turning, [web()]),
    (alike.kin_row, [web(), other()]),
    (alike.kin_count, [web()]),
    (round_signs.round_signs, [web()]),
    (round_signs.web_by_signs, [web(FULL), ("signs", (1,) * 7, errors.InvalidSigns, wrong_signs(7))]),
    (round_signs.is_theta, [web(FULL), ("value", ((0, 1, 2), (0, 1, 3), (0, 2, 1, 3)), None, [])]),
    (round_signs.own_rounds, [web()]),
    (round_signs.web_by_own, [web(FULL), ("signs", (1, -1, 1), errors.InvalidSigns, wrong_signs(3))]),
    (round_signs.ring_sum, [web(), RING]),
    (round_signs.sum_row, [web(FULL), SEVERAL, FULL_RING]),
    (round_signs.is_sum_row, [web(FULL), SEVERAL, FULL_RING, ("value", (2,), None, [])]),
    (round_signs.count_with, [web(FULL), SEVERAL, TOLD]),
    (round_signs.class_with, [web(FULL), SEVERAL, TOLD]),
    (round_signs.clash, [web(FULL), SEVERAL, ("signs", (1, -1, -1), errors.InvalidSigns, wrong_signs(3))]),
    (round_signs.is_clash, [web(FULL), SEVERAL, ("signs", (1, -1, -1), errors.InvalidSigns, wrong_signs(3)),
                            ("value", (0, 2), None, [])]),
    (classes.class_count, [web()]),
    (classes.class_size, [web()]),
    (classes.class_number, [web()]),
    (classes.nth_class, [web(), NUMBER]),
    (classes.member_number, [web()]),
    (classes.nth_member, [web(), NUMBER]),
    (classes.foe_counts, [web()]),
    (classes.even_members, [web()]),
    (classes.changed_to, [web(), other(CALM)]),
    (classes.class_gap, [web(), other(CALM)]),
    (class_numbers.least_kin, [web()]),
    (class_numbers.kind_count, [web()]),
    (trouble.trouble, [web()]),
    (trouble.wrong_ties, [web(), LOT]),
    (trouble.best_camp_count, [web()]),
    (trouble.nth_best_camp, [web(), NUMBER]),
    (trouble.is_cure, [web(), TIES]),
    (trouble.least_cures, [web()]),
    (trouble.least_bearing, [web(), TIE, SIGN]),
    (trouble.is_apart, [web(), ("value", [(0, 1, 2)], None, [])]),
    (trouble.most_apart, [web()]),
    (rests.ailing, [web()]),
    (rests.is_at_rest, [web()]),
    (rests.heavy_lot, [web()]),
    (rests.is_calming, [web(), ("value", [0], None, [])]),
    (rests.calmed, [web()]),
    (rests.calming_lengths, [web()]),
    (rests.rest_count, [web()]),
    (rests.nth_rest, [web(), NUMBER]),
    (lumps.lumps, [web()]),
    (lumps.joints, [web()]),
    (lumps.lump_troubles, [web()]),
    (lumps.bad_ring_at, [web(), TIE]),
    (lumps.good_ring_at, [web(), TIE]),
    (lumps.common_ties, [web()]),
    (lumps.common_places, [web()]),
    (lumps.least_leaving, [web()]),
    (lumps.bad_pair, [web()]),
    (tight.tie_kinds, [web()]),
    (tight.is_tight, [web()]),
    (tight.tight_part, [web()]),
    (free_sets.is_free, [web(), TIES]),
    (free_sets.rank_of, [web(), TIES]),
    (free_sets.first_free, [web()]),
    (free_sets.bind_in, [web(CALM), TIES]),
    (free_sets.is_bind, [web(CALM), ("value", ((0, 1), (0, 2), (1, 2)), None, [])]),
    (free_sets.bind_with, [web(CALM), ("ties", ((0, 1), (0, 2)), errors.InvalidTies, WRONG_TIE_SETS),
                           ("tie", (1, 2), errors.InvalidTie, WRONG_TIES + [(0, 1), (0, 2)])]),
    (free_sets.lightest_free, [web(), WEIGHTS]),
    (free_sets.is_lightest, [web(), WEIGHTS, TIES]),
    (free_sets.free_counts, [web()]),
    (weights.free_weight, [web(), LOT]),
    (weights.weight_sums, [web()]),
    (weights.tie_table, [web()]),
    (weights.tree_count, [web()]),
    (threes.bad_threes, [web(FULL)]),
    (threes.is_even, [MANY, ("value", ((0, 1, 2), (0, 1, 3)), None, [])]),
    (threes.odd_four, [MANY, THREES]),
    (threes.web_of_threes, [MANY, THREES]),
    (threes.seen_from, [web(FULL), PLACE]),
    (threes.even_count, [MANY]),
    (threes.threes_number, [MANY, THREES]),
    (threes.nth_threes, [MANY, NUMBER]),
    (threes.bad_at_ties, [web(FULL)]),
    (threes.is_steady, [web(FULL)]),
    (threes.lot_for_row, [web(FULL), ("row", (2, 0, 3, 1), errors.InvalidRow, WRONG_ROWS)]),
    (threes.keeping_rows, [web(FULL)]),
    (dyes.is_dyeing, [web(), ("count", 4, errors.InvalidCount, WRONG_COUNTS + [1001, 10**89]),
                      ("value", (1, 2, 3, 4), None, []), NONZERO]),
    (dyes.dyeing_count, [web(), COUNT, NONZERO]),
    (dyes.first_dyeing, [web(), COUNT, NONZERO]),
    (dyes.least_width, [web(), NONZERO]),
    (dyes.polynomial, [web(), NONZERO]),
    (choices.is_choice, [web(), ("value", (1, 1, 1, 1), None, [])]),
    (choices.choice_by, [web(), ("row", (1, 2, 3, 4), errors.InvalidRow, WRONG_DYEINGS)]),
    (choices.stands, [web(), CHOICE]),
    (choices.standing_row, [web(), CHOICE]),
    (choices.stop, [web(CALM), ("choice", (1, -1, 1, 1), errors.InvalidChoice, wrong_signs(4))]),
    (choices.is_standing_row, [web(), CHOICE, ("value", (4, 3, 2, 1), None, [])]),
    (choices.is_stop, [web(CALM), ("choice", (1, -1, 1, 1), errors.InvalidChoice, wrong_signs(4)),
                       ("value", (1, 1, 1, 0), None, [])]),
    (choices.standing_count, [web()]),
    (choices.standing_choices, [web()]),
    (choices.turned_choice, [web(), CHOICE, LOT]),
    (choices.gates, [web(), CHOICE]),
    (choices.gate_row, [web(), CHOICE, OTHER_CHOICE]),
    (choices.is_gate_row, [web(), CHOICE, OTHER_CHOICE, ("value", [(2, 3)], None, [])]),
    (choices.pair_count, [web(), COUNT, NONZERO]),
    (doubled.doubled, [web()]),
    (doubled.is_doubled, [("value", doubled.doubled(WEB), None, [])]),
    (doubled.undoubled, [("table", doubled.doubled(WEB), errors.InvalidTable, WRONG_TABLES + [
        ((0,),), web_of(3, {}), web_of(4, {(0, 2): 1}), web_of(4, {(0, 1): 1}), ((0, 1), (1, 0)), web_of(19, {})])]),
    (doubled.sheet_pieces, [web()]),
    (doubled.walk_sign, [web(), WALK]),
    (doubled.lifted, [web(), WALK, ("place", 4, errors.InvalidPlace, [one for one in WRONG_PLACES if one != 4] +
                                    [1, 2, 3, 5, 6, 7, 8])]),
    (doubled.dropped, [web(), ("walk", (0, 5, 6, 4), errors.InvalidWalk, WRONG_DOUBLED_WALKS)]),
    (doubled.shortest_walk, [web(), PLACE, GOAL, SIGN]),
    (doubled.step_table, [web(), PLACE]),
    (doubled.walk_counts, [web(), PLACE, GOAL, ("number", 4, errors.InvalidCount, WRONG_COUNTS + [61, 10**89])]),
    (doubled.doubled_tree_count, [web()]),
    (doubled.is_twin_map, [TABLE, ("value", TWINS, None, [])]),
    (doubled.twin_maps, [TABLE]),
    (doubled.web_of_twins, [TABLE, ("row", TWINS, errors.InvalidRow, WRONG_ROWS + [
        TWINS[::-1], tuple(range(8)), list(TWINS), TWINS[:-1], TWINS + (8,), (4, 5, 6, 7, False, True, 2, 3)])]),
    (joining.joined_at, [web(), other(((0, 1), (1, 0))), ("place", 3, errors.InvalidPlace, WRONG_PLACES),
                         ("spot", 1, errors.InvalidPlace, WRONG_PLACES + [2, 3])]),
    (joining.joined_all, [web(), other(), SIGN]),
    (joining.put_in, [web(), PLACE, other()]),
    (joining.parted_tie, [web(), TIE]),
    (joining.with_place, [web(), ("signs", (1, 0, -1, 0), errors.InvalidSigns, [
        one for one in wrong_signs(4) if repr(one) != "(1, 1, 1, 0)"] + [(0, 0, 0, -2), (0, 0, 0, 10**89)])]),
    (joining.less_place, [web(), PLACE]),
    (joining.drawn, [web(CALM), TIE]),
    (joining.trimmed, [web()]),
    (paper_texts.is_paper, [("value", ("ring", WEB, (0, 1, 2)), None, [])]),
]
DEFAULTS = {
    ("neighbours", "sign"): 0, ("pieces", "lot"): (), ("free_weight", "lot"): (), ("is_dyeing", "nonzero"): False,
    ("dyeing_count", "nonzero"): False, ("first_dyeing", "nonzero"): False, ("least_width", "nonzero"): False,
    ("polynomial", "nonzero"): False, ("pair_count", "nonzero"): False,
}
TEXTS = (webs.web_told, "text")


def parameters_of(function):
    (found,) = [parameters for one, parameters in CALLS if one is function]
    return found


def good_call(function):
    return [good for _, good, _, _ in parameters_of(function)]


def many_values():
    return OTHERS + [WEB, CALM, LIKE, FULL, RINGS, empty_web(1), empty_web(10), circle_web(5, True),
                     doubled.doubled(WEB), doubled.doubled(circle_web(10, True)), TWINS, (1, 1, 1, 1), (1, 2, 3, 4)]
