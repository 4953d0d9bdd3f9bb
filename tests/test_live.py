import copy
import inspect
import unittest

from signrounds import errors, live as module
from signrounds.errors import (
    InvalidCount, InvalidDeeds, InvalidLot, InvalidPlace, InvalidSign, InvalidWeb, NoSpan, NothingToUndo, OverLimit,
    Refused, TooMany,
)
from signrounds.live import LimitedLive, Live, replay
from signrounds.webs import web_told
from tests.calls import WRONG_COUNTS, WRONG_WEBS, many_values
from tests.plain_live import (
    FIELDS, METHODS, PARAMETERS, Plain, WRONG_LOTS_OF_MARKS, WRONG_MARKS, alike_anew, answer_or_error, drawn_deed,
    fields_of, least_foes,
)
from tests.samples import Draw, circle_web, drawn_webs, empty_web, full_web, pairs_tied, small_webs, web_of

TRI = ((0, -1, 1), (-1, 0, 1), (1, 1, 0))
# Two pieces: a bad round of three, and two foes.
FIVE = web_of(5, {(0, 1): -1, (0, 2): 1, (1, 2): 1, (3, 4): -1})


def made(web, limit=None):
    return Live(web) if limit is None else LimitedLive(web, limit)


def starts(seed):
    """Webs and limits to begin with."""
    told = [(web, None) for web in drawn_webs(seed, 2, 1, 8)] + [(web, least_foes(web)) for web in
                                                                  drawn_webs(seed + 1, 2, 1, 7)]
    return told + [(web, least_foes(web) + 1) for web in drawn_webs(seed + 2, 2, 3, 6)]


class Together(unittest.TestCase):
    """A live web and a plain one, to which the same is done."""

    def begin_with(self, web, limit=None):
        self.live, self.plain, self.limited = made(web, limit), Plain(web, limit), limit is not None
        self.same_fields()

    def same_fields(self):
        self.assertEqual(fields_of(self.live, self.limited), self.plain.fields())

    def same_history(self):
        plain = self.plain
        self.assertEqual(self.live.troubles(), [least_foes(one.web()) for one in plain.situations])
        self.assertEqual(self.live.view_foes(), [one.foes_in_view() for one in plain.situations])
        self.assertEqual([self.live.row(at) for at in range(len(plain.rows) + 2)], plain.rows + [None, None])
        self.assertEqual(self.live.moments(), plain.moments())

    def do(self, deed):
        """Do the deed, both ways, and what would tells of it ahead."""
        would = answer_or_error(self.live.would, deed)
        self.assertEqual(would, answer_or_error(self.plain.would, deed), deed)
        self.same_fields()
        told = answer_or_error(getattr(self.live, deed[0]), *deed[1:])
        self.assertEqual(told, answer_or_error(self.plain.do, deed), deed)
        self.same_fields()
        if told[0] == "told":
            step = (self.live.troubles()[-1], self.live.view_foes()[-1], self.live.row(len(self.live.deeds) - 1))
            self.assertEqual(would, ("told", repr(step)))
        else:
            self.assertEqual(would, told)
        return told[0]

    def both(self, name):
        told = answer_or_error(getattr(self.live, name))
        self.assertEqual(told, answer_or_error(getattr(self.plain, name)))
        self.same_fields()


class Deeds(Together):
    def test_drawn_deeds(self):
        draw = Draw(901)
        kinds = {}
        for web, limit in starts(901):
            self.begin_with(web, limit)
            for _ in range(30):
                deed = drawn_deed(draw, self.plain.last(), self.limited)
                kind = (deed[0], self.do(deed))
                kinds[kind] = kinds.get(kind, 0) + 1
            self.same_history()
        # All deeds were done, and each error of theirs was raised.
        for name in PARAMETERS:
            self.assertGreater(kinds.get((name, "told"), 0), 3, name)
        for kind in [("come", "InvalidLot"), ("leave", "InvalidPlace"), ("leave", "Refused"),
                     ("tie", "InvalidPlace"), ("tie", "InvalidSign"), ("tie", "Refused"), ("untie", "Refused"),
                     ("flip", "Refused"), ("turn", "InvalidLot"), ("draw", "Refused"), ("draw", "InvalidPlace"),
                     ("shake", "Refused"), ("shake", "InvalidLot"), ("flip", "OverLimit"), ("tie", "OverLimit"),
                     ("come", "OverLimit"), ("relax", "OverLimit"), ("relax", "InvalidCount")]:
            self.assertIn(kind, kinds)

    def test_deeds_spans_and_undo(self):
        draw = Draw(902)
        for web, limit in starts(902)[::2]:
            self.begin_with(web, limit)
            for _ in range(45):
                if draw.below(3):
                    self.do(drawn_deed(draw, self.plain.last(), self.limited, 5))
                else:
                    name = draw.one(("begin", "undo", "undo", "keep", "drop") if len(self.plain.spans) < 12
                                    else ("keep", "drop"))
                    self.both(name)
            self.same_history()

    def test_sixty_deeds_of_ten_places(self):
        draw = Draw(903)
        for web, limit in ((full_web(10, -1), None), (circle_web(10, True), 9)):
            self.begin_with(web, limit)
            while len(self.plain.deeds) < 60:
                self.do(drawn_deed(draw, self.plain.last(), self.limited, 2))
            self.same_history()

    def test_a_view_settles_at_the_start(self):
        for web in list(small_webs())[::3] + list(drawn_webs(904)):
            live, plain = Live(web), Plain(web)
            self.assertEqual(fields_of(live, False), plain.fields())
            self.assertEqual([live.row(0), live.deeds, live.depth], [None, [], 0])
        self.assertEqual(Live(full_web(4, -1)).turned, (0, 1))
        self.assertEqual([Live(empty_web(1)).view, Live(empty_web(1)).next_mark], [empty_web(1), 1])

    def test_a_place_may_come_again_in_a_row(self):
        self.begin_with(web_of(3, {(0, 2): -1}))
        self.assertEqual(self.live.turned, (0,))
        self.assertEqual(self.do(("come", (0,), (1, 2))), "told")
        self.assertEqual([self.live.row(0), self.live.turned, self.live.view_foes()], [(1, 3, 1), (0, 3), [0, 0]])

    def test_returned_values(self):
        live = LimitedLive(TRI, 1)
        self.assertEqual([live.come((0,), (1,)), live.come((), ()), live.untie(0, 1), live.flip(2, 1)], [3, 4, -1, -1])
        told = [live.turn((0, 4)), live.tie(0, 4, 1), live.draw(4, 0), live.leave(1), live.relax(7)]
        self.assertEqual(told, [None] * 5)
        self.assertEqual(live.marks, (0, 2, 3))
        self.assertEqual([live.begin(), live.keep(), live.begin(), live.drop()], [None] * 4)

    def test_shake(self):
        self.begin_with(web_told(".-...+/-.+.../.+.+../..+.-./...-.+/+...+."))
        self.assertEqual(self.live.view_foes(), [2])
        for marks in ((), (0,), (0, 1, 2, 3, 4, 5), (3, 0)):
            self.assertNotEqual(self.do(("shake", marks)), "told")
        self.assertEqual(self.do(("shake", (0, 4, 5))), "told")
        self.assertEqual([self.live.row(0), self.live.turned, self.live.view_foes()], [(0, 4, 5), (0, 4, 5), [2, 0]])
        self.assertEqual(self.live.web, self.live.start)

    def test_a_shake_that_goes_on_settling(self):
        found = 0
        draw = Draw(905)
        for web in list(drawn_webs(905, 4, 6, 9)) + [Draw(seed).web(8, 60) for seed in range(8)]:
            self.begin_with(web)
            for _ in range(12):
                marks = draw.lot(len(web))
                if self.do(("shake", marks)) == "told":
                    found += len(self.live.row(len(self.live.deeds) - 1)) > len(marks)
        self.assertGreater(found, 0)

    def test_draw(self):
        self.begin_with(web_of(5, {(0, 1): 1, (0, 2): -1, (1, 2): -1, (1, 3): 1, (3, 4): -1}))
        for deed in (("draw", 0, 2), ("draw", 0, 3), ("draw", 4, 3), ("draw", 0, 0), ("draw", 9, 0), ("draw", 0, 9)):
            self.assertNotEqual(self.do(deed), "told")
        self.assertEqual(self.do(("draw", 0, 1)), "told")
        self.assertEqual(self.live.marks, (1, 2, 3, 4))
        self.assertEqual(self.live.web, web_of(4, {(0, 1): -1, (0, 2): 1, (2, 3): -1}))
        self.assertEqual(self.do(("draw", 3, 1)), "told")
        self.assertEqual([self.live.marks, self.live.web], [(1, 2, 4), web_of(3, {(0, 1): -1, (0, 2): -1})])
        self.begin_with(TRI)
        for pair in ((0, 2), (2, 0), (1, 2), (2, 1), (0, 1)):
            self.assertEqual(self.do(("draw", *pair)), "Refused")

    def test_draw_leaves_the_other_one_in_turned_or_out_of_it(self):
        for which in ((), (0,), (1,), (0, 1)):
            self.begin_with(full_web(2, 1))
            self.do(("turn", (0,)))
            self.do(("turn", which))
            if self.plain.last().sign(0, 1) != 1:
                self.do(("flip", 0, 1))
            turned = self.live.turned
            self.assertEqual(self.do(("draw", 0, 1)), "told")
            self.assertEqual(self.live.turned, tuple(mark for mark in turned if mark == 1))

    def test_marks(self):
        live = Live(TRI)
        self.assertEqual([live.come((), ()), live.undo(), live.next_mark], [3, ("come", (), ()), 3])
        self.assertEqual([live.come((0,), ()), live.come((3,), ()), live.next_mark], [3, 4, 5])
        live.leave(3)
        self.assertEqual([live.come((), (4,)), live.marks], [5, (0, 1, 2, 4, 5)])
        live.begin()
        self.assertEqual([live.come((), ()), live.next_mark, live.drop(), live.next_mark], [6, 7, None, 6])
        self.assertEqual([live.come((), ()), live.marks], [6, (0, 1, 2, 4, 5, 6)])

    def test_ten_places(self):
        live = Live(full_web(9, 1))
        self.assertEqual(live.come((0, 1), (2,)), 9)
        for friends, foes in (((), ()), ((9,), (0,))):
            with self.assertRaises(TooMany) as caught:
                live.come(friends, foes)
            self.assertEqual(caught.exception.count, 10)
        with self.assertRaises(Refused):
            live.come((1, 2), (2, 3))
        with self.assertRaises(InvalidLot):
            live.come((1, 2), (2, 10))
        live.leave(0)
        self.assertEqual(live.come((), ()), 10)

    def test_the_only_place(self):
        live = Live(empty_web(1))
        with self.assertRaises(Refused):
            live.leave(0)
        self.assertEqual(live.come((0,), ()), 1)
        live.leave(0)
        self.assertEqual([live.marks, live.web, live.view, live.turned], [(1,), empty_web(1), empty_web(1), ()])
        with self.assertRaises(Refused):
            live.leave(1)
        with self.assertRaises(InvalidPlace):
            live.leave(0)

    def test_by_name_and_by_position(self):
        one, other = LimitedLive(web=FIVE, limit=9), LimitedLive(FIVE, 9)
        one.come(foes=(1,), friends=(0,))
        one.tie(sign=-1, other_mark=4, mark=5)
        one.flip(other_mark=5, mark=4)
        one.untie(other_mark=4, mark=3)
        one.turn(marks=(1, 2))
        one.draw(other_mark=4, mark=5)
        one.leave(mark=3)
        one.relax(number=12)
        other.come((0,), (1,))
        other.tie(5, 4, -1)
        other.flip(4, 5)
        other.untie(3, 4)
        other.turn((1, 2))
        other.draw(5, 4)
        other.leave(3)
        other.relax(12)
        self.assertEqual(one.deeds, [("come", (0,), (1,)), ("tie", 5, 4, -1), ("flip", 4, 5), ("untie", 3, 4),
                                     ("turn", (1, 2)), ("draw", 5, 4), ("leave", 3), ("relax", 12)])
        self.assertTrue(one == other and one.web == other.web)
        self.assertEqual([one.row(number=1), one.would(deed=("leave", 4))], [other.row(1), other.would(("leave", 4))])
        self.assertEqual(replay(deeds=one.deeds, web=FIVE, limit=9), one)
        six = web_told(".-...+/-.+.../.+.+../..+.-./...-.+/+...+.")
        shaken = Live(six)
        shaken.shake(marks=(0, 4, 5))
        self.assertEqual(shaken.deeds, [("shake", (0, 4, 5))])


class Errors(unittest.TestCase):
    GOOD = [("come", (0,), (1,)), ("leave", 4), ("tie", 0, 3, 1), ("untie", 0, 1), ("flip", 0, 1), ("turn", (0, 1)),
            ("draw", 0, 2), ("shake", (1,)), ("relax", 3)]
    KINDS = {"come": ["marks", "marks"], "leave": ["mark"], "tie": ["mark", "other", "sign"],
             "untie": ["mark", "other"], "flip": ["mark", "other"], "turn": ["marks"], "draw": ["mark", "other"],
             "shake": ["marks"], "relax": ["number"]}
    WRONG = {"marks": (InvalidLot, WRONG_LOTS_OF_MARKS), "mark": (InvalidPlace, WRONG_MARKS + [5]),
             "other": (InvalidPlace, WRONG_MARKS + [5, 0]),
             "sign": (InvalidSign, [None, True, 0, 2, "+", (1,), 10**89]),
             "number": (InvalidCount, WRONG_COUNTS)}

    def test_wrong_values_of_each_parameter_whatever_follows(self):
        for deed in self.GOOD:
            kinds = self.KINDS[deed[0]]
            for at, kind in enumerate(kinds):
                error, wrong = self.WRONG[kind]
                for value in wrong:
                    spoilt = [self.WRONG[one][1][0] for one in kinds[at + 1:]]
                    for behind in (list(deed[at + 2:]), spoilt):
                        live = LimitedLive(FIVE, 2)
                        kept = fields_of(live, True)
                        values = [*deed[1:at + 1], value, *behind]
                        for call in (lambda: getattr(live, deed[0])(*values), lambda: live.would((deed[0], *values))):
                            with self.assertRaises(error, msg=(deed, value)) as caught:
                                call()
                            self.assertIs(type(caught.exception), error)
                        self.assertEqual(fields_of(live, True), kept)

    def test_any_value_for_each_parameter(self):
        for deed in self.GOOD:
            for at in range(1, len(deed)):
                for value in many_values():
                    live = LimitedLive(FIVE, 2)
                    kept, again = fields_of(live, True), repr(value)
                    told = answer_or_error(getattr(live, deed[0]), *deed[1:at], value, *deed[at + 1:])
                    if told[0] != "told":
                        self.assertEqual(fields_of(live, True), kept)
                    self.assertEqual(repr(value), again)

    def test_webs_and_limits(self):
        for web in WRONG_WEBS:
            for function in (Live, lambda web: LimitedLive(web, -1), lambda web: replay(web, None),
                             lambda web: replay(web, None, limit=-1)):
                with self.assertRaises(InvalidWeb):
                    function(web)
        for limit in WRONG_COUNTS:
            with self.assertRaises(InvalidCount):
                LimitedLive(TRI, limit)
            if limit is not None:
                with self.assertRaises(InvalidCount):
                    replay(TRI, None, limit=limit)

    def test_limit_none_is_no_limit_of_a_limited_one(self):
        with self.assertRaises(InvalidCount):
            LimitedLive(TRI, None)
        self.assertIs(type(replay(TRI, [])), Live)
        self.assertIs(type(replay(TRI, [], limit=None)), Live)
        self.assertIs(type(replay(TRI, [], limit=1)), LimitedLive)

    def test_numbers_of_rows(self):
        live = Live(web_told(".+-/+.+/-+."))
        live.flip(0, 1)
        for number in WRONG_COUNTS:
            with self.assertRaises(InvalidCount):
                live.row(number)
        self.assertEqual([live.row(0), live.row(1), live.row(10**89)], [(0,), None, None])

    def test_spans(self):
        live = Live(TRI)
        for call in (live.keep, live.drop):
            with self.assertRaises(NoSpan):
                call()
        with self.assertRaises(NothingToUndo):
            live.undo()
        self.assertEqual(live, Live(TRI))

    def test_would(self):
        for live in (Live(FIVE), LimitedLive(FIVE, 1)):
            limited = isinstance(live, LimitedLive)
            live.flip(3, 4)
            kept = fields_of(live, limited)
            for deed in many_values() + [
                (), ("come",), ("come", ()), ("come", (), (), ()), ["come", (), ()], ("leave",), ("leave", 1, 2),
                ("flip", 0), ("undo",), ("begin",), ("keep",), ("drop",), ("twin",), ("row", 0), ("would", ()),
                ("", 0), (None, 0), (["leave"], 0), (("leave",), 0), ("Leave", 0), ("leave ", 0), ("relax",), "leave",
                ("relax", 1, 2), ("troubles",), ("__init__", FIVE), ("perform", ("leave", 0)), (0, "leave"), ("web",),
            ] + ([] if limited else [("relax", 5)]):
                with self.assertRaises(InvalidDeeds, msg=deed) as caught:
                    live.would(deed)
                self.assertEqual(caught.exception.index, 0)
                self.assertEqual(fields_of(live, limited), kept)
            for error, deed in ((InvalidLot, ("come", [], ())), (Refused, ("come", (0,), (0,))),
                                (InvalidPlace, ("leave", 5)), (InvalidPlace, ("tie", 0, 0, 1)),
                                (Refused, ("tie", 0, 1, 1)), (InvalidSign, ("tie", 0, 3, 0)),
                                (Refused, ("untie", 0, 3)), (Refused, ("flip", 0, 3)),
                                (InvalidLot, ("turn", (1, 0))), (Refused, ("draw", 0, 2)), (Refused, ("draw", 0, 1)),
                                (Refused, ("shake", ())), (InvalidLot, ("shake", None))):
                with self.assertRaises(error):
                    live.would(deed)
                self.assertEqual(fields_of(live, limited), kept)
        self.assertEqual(live.would(("relax", 5)), (1, 1, ()))
        for error, deed in ((OverLimit, ("relax", 0)), (InvalidCount, ("relax", -1)), (InvalidCount, ("relax", None))):
            with self.assertRaises(error):
                live.would(deed)
        self.assertEqual([live.limit, live.deeds], [1, [("flip", 3, 4)]])


class Spans(Together):
    def test_nested_twelve_deep(self):
        self.begin_with(TRI)
        for depth in range(12):
            self.both("begin")
            self.assertEqual(self.live.depth, depth + 1)
            self.both("undo")
            self.do(("flip", 0, 1))
        self.assertEqual(len(self.live.deeds), 12)
        for depth in range(12):
            self.both("undo")
            self.both("undo")
            self.both("keep" if depth % 2 else "drop")
        self.assertEqual(self.live.depth, 0)
        self.both("keep")
        self.both("drop")
        self.both("undo")
        self.same_history()

    def test_undo_stops_at_the_beginning_of_the_innermost_span(self):
        live = Live(TRI)
        live.flip(0, 1)
        live.begin()
        with self.assertRaises(NothingToUndo):
            live.undo()
        live.come((), ())
        live.begin()
        with self.assertRaises(NothingToUndo):
            live.undo()
        live.keep()
        self.assertEqual(live.undo(), ("come", (), ()))
        with self.assertRaises(NothingToUndo):
            live.undo()
        live.keep()
        self.assertEqual([live.undo(), live.deeds, live.depth], [("flip", 0, 1), [], 0])

    def test_keep_leaves_the_deeds_to_the_span_around(self):
        live = Live(TRI)
        live.begin()
        live.flip(0, 1)
        live.begin()
        live.flip(0, 2)
        self.assertEqual([live.keep(), live.depth, live.deeds], [None, 1, [("flip", 0, 1), ("flip", 0, 2)]])
        self.assertEqual([live.drop(), live.depth, live.deeds, live == Live(TRI)], [None, 0, [], True])

    def test_undo_takes_back_turned_mark_and_limit(self):
        live = LimitedLive(TRI, 1)
        kept = [fields_of(live, True)]
        for call in (lambda: live.come((0,), (1,)), lambda: live.relax(9), lambda: live.turn((1, 2)),
                     lambda: live.leave(1), lambda: live.flip(0, 2)):
            call()
            kept.append(fields_of(live, True))
        for fields in kept[-2::-1]:
            live.undo()
            self.assertEqual(fields_of(live, True), fields)


class Limits(unittest.TestCase):
    def test_at_the_start(self):
        for web in list(small_webs())[::10] + list(drawn_webs(911, 4, 5, 7)):
            least = least_foes(web)
            self.assertEqual(LimitedLive(web, least).limit, least)
            self.assertEqual(LimitedLive(web, least + 3).first_limit, least + 3)
            for function in (lambda: LimitedLive(web, least - 1), lambda: replay(web, None, limit=least - 1)):
                if least:
                    with self.assertRaises(OverLimit) as caught:
                        function()
                    self.assertEqual(caught.exception.count, least)
        self.assertEqual(LimitedLive(TRI, 10**89).limit, 10**89)

    def test_just_kept_and_passed(self):
        live = LimitedLive(full_web(4, 1), 1)
        self.assertEqual([live.flip(0, 1), live.troubles()], [-1, [0, 1]])
        kept = fields_of(live, True)
        for call in (lambda: live.flip(2, 3), lambda: live.come((0, 2), (1, 3)), lambda: live.relax(0)):
            with self.assertRaises(OverLimit) as caught:
                call()
            self.assertIn(caught.exception.count, (1, 2, 3))
            self.assertEqual(fields_of(live, True), kept)
        live.relax(2)
        self.assertEqual([live.flip(2, 3), live.limit, live.first_limit, live.row(1)], [-1, 2, 1, ()])
        with self.assertRaises(OverLimit) as caught:
            live.relax(1)
        self.assertEqual(caught.exception.count, 2)
        live.turn((0,))
        self.assertEqual([live.untie(2, 3), live.relax(1), live.troubles()], [-1, None, [0, 1, 1, 2, 2, 1, 1]])
        self.assertEqual([live.undo(), live.limit, live.first_limit], [("relax", 1), 2, 1])

    def test_over_limit_comes_behind_all_other_errors(self):
        live = LimitedLive(full_web(4, 1), 0)
        for error, deed in ((Refused, ("tie", 0, 1, -1)), (InvalidSign, ("tie", 0, 1, 2)),
                            (InvalidPlace, ("flip", 0, 4)), (Refused, ("come", (0, 1), (1, 2))),
                            (OverLimit, ("flip", 0, 1)),
                            (OverLimit, ("come", (0,), (1,)))):
            for call in (lambda: getattr(live, deed[0])(*deed[1:]), lambda: live.would(deed)):
                with self.assertRaises(error):
                    call()
        ten = LimitedLive(full_web(10, 1), 0)
        with self.assertRaises(TooMany):
            ten.come((0,), (1,))
        self.assertEqual([live, ten], [LimitedLive(full_web(4, 1), 0), LimitedLive(full_web(10, 1), 0)])

    def test_draw_may_pass_the_limit(self):
        # Two bad rounds of four share just the tie: without it, they are two bad rounds of three.
        web = web_of(6, {(0, 1): 1, (1, 2): -1, (2, 3): 1, (0, 3): 1, (1, 4): 1, (4, 5): -1, (0, 5): 1})
        live = LimitedLive(web, 1)
        for pair in ((0, 1), (1, 0)):
            with self.assertRaises(OverLimit) as caught:
                live.draw(*pair)
            self.assertEqual([caught.exception.count, live == LimitedLive(web, 1)], [2, True])
        live.relax(2)
        live.draw(1, 0)
        self.assertEqual([live.troubles(), live.marks], [[1, 1, 2], (0, 2, 3, 4, 5)])

    def test_no_relax_without_a_limit(self):
        self.assertFalse(hasattr(Live(TRI), "relax") or hasattr(Live(TRI), "limit"))
        self.assertTrue(issubclass(LimitedLive, Live))


class Equal(unittest.TestCase):
    def test_equality(self):
        one, other = Live(TRI), Live(TRI)
        self.assertTrue(one == other and not one != other)
        one.flip(0, 1)
        self.assertFalse(one == other)
        other.flip(1, 0)
        self.assertEqual(one.web, other.web)
        self.assertFalse(one == other)
        other.undo()
        other.flip(0, 1)
        other.begin()
        self.assertTrue(one == other)
        self.assertFalse(Live(TRI) == Live(FIVE))
        self.assertFalse(Live(TRI) == LimitedLive(TRI, 1))
        self.assertFalse(LimitedLive(TRI, 1) == Live(TRI))
        self.assertFalse(LimitedLive(TRI, 1) == LimitedLive(TRI, 2))
        self.assertTrue(LimitedLive(TRI, 1) == LimitedLive(TRI, 1))
        relaxed = LimitedLive(TRI, 1)
        relaxed.relax(2)
        self.assertFalse(relaxed == LimitedLive(TRI, 1) or relaxed == LimitedLive(TRI, 2))
        for value in many_values() + [TRI, [], object()]:
            self.assertIs(one == value, False)
            self.assertIs(relaxed == value, False)
            self.assertIs(one != value, True)

    def test_twins(self):
        draw = Draw(921)
        for web, limit in starts(921)[::3]:
            live = made(web, limit)
            plain = Plain(web, limit)
            for _ in range(12):
                deed = drawn_deed(draw, plain.last(), limit is not None, 0)
                if answer_or_error(plain.do, deed)[0] == "told":
                    getattr(live, deed[0])(*deed[1:])
                    live.begin()
            twin = live.twin()
            self.assertIs(type(twin), type(live))
            self.assertTrue(twin == live and twin is not live)
            fields = fields_of(twin, limit is not None)
            self.assertEqual(fields[:-3] + fields[-2:] if limit is not None else fields[:-1],
                             [one for at, one in enumerate(fields_of(live, limit is not None)) if at != 7])
            self.assertEqual([twin.depth, twin.troubles(), twin.moments()], [0, live.troubles(), live.moments()])
            kept = fields_of(live, limit is not None)
            if twin.deeds:
                twin.undo()
                self.assertFalse(twin == live)
            twin.begin()
            twin.come((), ())
            self.assertEqual(fields_of(live, limit is not None), kept)
            fields = fields_of(twin, limit is not None)
            live.turn(())
            self.assertEqual(fields_of(twin, limit is not None), fields)

    def test_replay(self):
        deeds = [("flip", 0, 1), ("come", (0,), (2,)), ("turn", (0, 3)), ("leave", 1)]
        live = replay(TRI, deeds)
        self.assertEqual([type(live), live.deeds, live.start, live.depth], [Live, deeds, TRI, 0])
        self.assertIsNot(live.deeds, deeds)
        limited = replay(TRI, deeds + [("relax", 4)], limit=2)
        self.assertEqual([type(limited), limited.limit, limited.first_limit], [LimitedLive, 4, 2])
        for value in (None, (), tuple(deeds), "flip", 0, True, ("flip", 0, 1)):
            with self.assertRaises(InvalidDeeds) as caught:
                replay(TRI, value)
            self.assertEqual(caught.exception.index, 0)
        for at in range(len(deeds) + 1):
            for wrong in (None, (), ["flip", 0, 1], ("flip", 0), ("relax", 3), ("undo",), ("leave", 9), ("flip", 0, 9),
                          ("tie", 0, 2, 1), ("shake", ()), ("come", (0,), [1]), "leave"):
                kept = deeds[:at] + [wrong] + deeds[at:] + [None]
                again = copy.deepcopy(kept)
                with self.assertRaises(InvalidDeeds) as caught:
                    replay(TRI, kept)
                self.assertEqual([caught.exception.index, kept], [at, again])
        with self.assertRaises(InvalidDeeds) as caught:
            replay(full_web(3, 1), [("turn", (1,)), ("flip", 0, 1)], limit=0)
        self.assertEqual(caught.exception.index, 1)
        with self.assertRaises(OverLimit):
            replay(TRI, [None], limit=0)
        with self.assertRaises(InvalidWeb):
            replay(None, None)


class Interface(unittest.TestCase):
    def test_methods_stand_in_the_class_itself(self):
        for name in METHODS + ["__init__", "__eq__"]:
            self.assertIn(name, vars(Live))
        for name in ("__init__", "relax"):
            self.assertIn(name, vars(LimitedLive))
        shapes = {name: str(inspect.signature(getattr(LimitedLive, name))) for name in METHODS + ["relax", "__init__"]}
        self.assertEqual(shapes, {
            "come": "(self, friends, foes)", "leave": "(self, mark)", "tie": "(self, mark, other_mark, sign)",
            "untie": "(self, mark, other_mark)", "flip": "(self, mark, other_mark)", "turn": "(self, marks)",
            "draw": "(self, mark, other_mark)", "shake": "(self, marks)", "row": "(self, number)", "troubles": "(self)",
            "view_foes": "(self)", "moments": "(self)", "would": "(self, deed)", "undo": "(self)", "begin": "(self)",
            "keep": "(self)", "drop": "(self)", "twin": "(self)", "relax": "(self, number)",
            "__init__": "(self, web, limit)"})
        self.assertEqual(str(inspect.signature(Live.__init__)), "(self, web)")
        self.assertEqual(str(inspect.signature(replay)), "(web, deeds, *, limit=None)")
        for one in (Live, LimitedLive, replay):
            self.assertEqual(one.__module__, "signrounds.live")
        self.assertEqual(module.Live, Live)

    def test_fields_are_there_from_the_start_and_lists_are_new(self):
        for live in (Live(TRI), LimitedLive(TRI, 3)):
            for name in FIELDS + (["limit", "first_limit"] if isinstance(live, LimitedLive) else []):
                self.assertTrue(hasattr(live, name))
            live.flip(0, 1)
            for told in (lambda: live.deeds, live.troubles, live.view_foes, live.moments):
                kept = list(told())
                self.assertIsNot(told(), told())
                told().clear()
                self.assertEqual(told(), kept)
            self.assertIsInstance(live.deeds, list)

    def test_errors_are_sign_errors(self):
        live = LimitedLive(full_web(3, 1), 0)
        with self.assertRaises(errors.SignError):
            live.flip(0, 1)


class Facts(unittest.TestCase):
    def runs(self, seed, many=16):
        """Live webs with drawn deeds, the plain ones to which the same was done, and whether they are limited."""
        draw = Draw(seed)
        for web, limit in starts(seed):
            live, plain = made(web, limit), Plain(web, limit)
            for _ in range(many):
                deed = drawn_deed(draw, plain.last(), limit is not None, 0)
                if answer_or_error(plain.do, deed)[0] == "told":
                    live.perform(deed)
            yield live, plain, limit

    def test_n1_each_turning_takes_a_foe_away(self):
        for live, plain, _ in self.runs(931):
            for at, (name, *values) in enumerate(live.deeds):
                before, after = plain.situations[at], plain.situations[at + 1]
                turnings = len(live.row(at)) - (len(values[0]) if name == "shake" else 0)
                self.assertLessEqual(turnings + after.foes_in_view(), len(after.signs))
                if name in ("tie", "untie", "flip"):
                    self.assertLessEqual(after.foes_in_view() + turnings, before.foes_in_view() + 1)
            for at, (least, foes) in enumerate(zip(live.troubles(), live.view_foes())):
                self.assertLessEqual(least, foes)
                self.assertLessEqual(2 * foes, len(plain.situations[at].signs))

    def test_n2_how_trouble_changes(self):
        for live, plain, _ in self.runs(932):
            least = live.troubles()
            for at, (name, *values) in enumerate(live.deeds):
                grown = least[at + 1] - least[at]
                if name == "tie":
                    self.assertIn(grown, (0, 1))
                elif name == "untie":
                    self.assertIn(grown, (0, -1))
                elif name == "flip":
                    self.assertIn(grown, (-1, 0, 1))
                elif name in ("turn", "shake", "relax"):
                    self.assertEqual(grown, 0)
                elif name == "come":
                    self.assertTrue(0 <= 2 * grown <= len(values[0]) + len(values[1]))
                elif name == "leave":
                    lost = sum(values[0] in pair for pair in plain.situations[at].signs)
                    self.assertTrue(0 <= -2 * grown <= lost)

    def test_n3_the_same_class(self):
        for live, plain, _ in self.runs(933):
            for at, deed in enumerate(live.deeds):
                together = any(at in group and at + 1 in group for group in live.moments())
                if deed[0] in ("turn", "shake", "relax"):
                    self.assertTrue(together)
                if deed[0] == "flip":
                    situation = plain.situations[at]
                    left = {pair: sign for pair, sign in situation.signs.items() if pair != frozenset(deed[1:])}
                    reached = {deed[1]}
                    for _ in situation.marks:
                        reached |= {mark for pair in left for mark in pair if pair & reached}
                    self.assertIs(together, deed[2] not in reached)
            twin = live.twin()
            for x, y in pairs_tied(live.web)[:3]:
                pair = (live.marks[x], live.marks[y])
                told = answer_or_error(twin.flip, *pair)
                if told[0] == "told":
                    twin.flip(*pair)
                    self.assertEqual(twin.web, live.web)

    def test_n4_start_and_deeds_alone(self):
        draw = Draw(934)
        for live, _, limit in self.runs(934):
            again = replay(live.start, live.deeds, limit=limit)
            self.assertTrue(again == live and type(again) is type(live))
            self.assertEqual(fields_of(again, limit is not None), fields_of(live, limit is not None))
            self.assertEqual([again.troubles(), again.view_foes(), again.moments()],
                             [live.troubles(), live.view_foes(), live.moments()])
            # What was done and taken back leaves no trace.
            live.begin()
            for _ in range(5):
                answer_or_error(live.perform, drawn_deed(draw, Plain(live.web).last(), limit is not None, 20))
            live.drop()
            self.assertEqual(fields_of(again, limit is not None), fields_of(live, limit is not None))
            self.assertEqual([again.row(at) for at in range(20)], [live.row(at) for at in range(20)])

    def test_n5_pieces_of_a_tie_alone(self):
        for signs in ({}, {(0, 1): -1}, {(0, 5): -1, (1, 4): 1, (2, 9): -1, (3, 8): -1}):
            live = Live(web_of(10, signs))
            self.assertEqual(live.view_foes(), [0])
            for x, y in signs:
                live.flip(x, y)
            self.assertEqual(live.view_foes(), [0] * (len(signs) + 1))

    def test_views_are_alike(self):
        for live, _, _ in self.runs(935, 8):
            self.assertTrue(alike_anew(live.web, live.view))


if __name__ == "__main__":
    unittest.main()
