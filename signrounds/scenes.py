"""What stands behind the deeds of a live web, and what each deed makes of it, or refuses to."""

from signrounds.base import drawn_into, foe_list, inner_web, others_of, tied_across, turned_at, with_sign
from signrounds.checks import need_number, need_room, need_sign
from signrounds.errors import InvalidDeeds, InvalidLot, InvalidPlace, OverLimit, Refused
from signrounds.kinds import is_ascending, is_whole, is_whole_row
from signrounds.lots import trouble_of
from signrounds.rests import calmed


class Scene:
    """A web, the marks of its places, the next mark, the marks turned in the view, and the limit, if any."""

    def __init__(self, web, marks, next_mark, turned, limit):
        self.web = web
        self.marks = marks
        self.next_mark = next_mark
        self.turned = turned
        self.limit = limit

    def with_web(self, web):
        """The scene with another web of the same places."""
        return Scene(web, self.marks, self.next_mark, self.turned, self.limit)

    def with_turned(self, turned):
        """The scene with others turned in the view."""
        return Scene(self.web, self.marks, self.next_mark, turned, self.limit)

    def without(self, web, mark):
        """The scene with a web that has not the place of the mark."""
        marks = tuple([one for one in self.marks if one != mark])
        turned = tuple([one for one in self.turned if one != mark])
        return Scene(web, marks, self.next_mark, turned, self.limit)

    def place(self, mark):
        """The place that has the mark."""
        return self.marks.index(mark)

    def sign(self, mark, other_mark):
        """The sign of the places of two marks."""
        return self.web[self.place(mark)][self.place(other_mark)]


class Step:
    """A deed, the marks that it turned in the view, what it answered, and what stands behind it."""

    def __init__(self, deed, turnings, answer, scene):
        self.deed = deed
        self.turnings = turnings
        self.answer = answer
        self.scene = scene
        self.view = view_of(scene)
        self.least = trouble_of(scene.web)


def view_of(scene):
    """The web turned at the marks that are turned."""
    return turned_at(scene.web, [scene.place(mark) for mark in scene.turned])


def exchanged(turned, marks):
    """The ascending tuple of the marks that come an odd number of times in both together."""
    both = turned + marks
    return tuple(sorted({mark for mark in both if both.count(mark) % 2 == 1}))


def settled(scene):
    """The scene whose view has settled, and the tuple of the marks turned for it."""
    row, _ = calmed(view_of(scene))
    turnings = tuple([scene.marks[place] for place in row])
    return scene.with_turned(exchanged(scene.turned, turnings)), turnings


def need_mark(scene, mark):
    if not is_whole(mark) or mark not in scene.marks:
        raise InvalidPlace("no place has this mark")


def need_two_marks(scene, mark, other_mark):
    need_mark(scene, mark)
    need_mark(scene, other_mark)
    if mark == other_mark:
        raise InvalidPlace("this is the same mark again")


def need_marks(scene, marks):
    if not is_whole_row(marks) or not is_ascending(marks) or not all([mark in scene.marks for mark in marks]):
        raise InvalidLot("this is no ascending tuple of marks that are there")


def need_tied(scene, mark, other_mark):
    """The sign of the two; Refused if they are not tied."""
    sign = scene.sign(mark, other_mark)
    if sign == 0:
        raise Refused("the two places are not tied")
    return sign


def with_sign_of(scene, mark, other_mark, sign):
    """The scene with this sign of the two."""
    return scene.with_web(with_sign(scene.web, scene.place(mark), scene.place(other_mark), sign))


# What settles behind a deed does so alike for all of them. So the functions of the deeds stop ahead of it: they
# tell the scene, the marks turned so far, and the answer.


def after_come(scene, friends, foes):
    need_marks(scene, friends)
    need_marks(scene, foes)
    if any([mark in foes for mark in friends]):
        raise Refused("a place is a friend or a foe, not both")
    need_room(len(scene.marks) + 1)
    signs = [1 if mark in friends else -1 if mark in foes else 0 for mark in scene.marks]
    web, mark = tied_across(scene.web, signs, ((0,),)), scene.next_mark
    return Scene(web, scene.marks + (mark,), mark + 1, scene.turned, scene.limit), (), mark


def after_leave(scene, mark):
    need_mark(scene, mark)
    if len(scene.marks) == 1:
        raise Refused("this is the only place")
    return scene.without(inner_web(scene.web, others_of(scene.web, (scene.place(mark),))), mark), (), None


def after_tie(scene, mark, other_mark, sign):
    need_two_marks(scene, mark, other_mark)
    need_sign(sign)
    if scene.sign(mark, other_mark) != 0:
        raise Refused("the two places are tied")
    return with_sign_of(scene, mark, other_mark, sign), (), None


def after_untie(scene, mark, other_mark):
    need_two_marks(scene, mark, other_mark)
    sign = need_tied(scene, mark, other_mark)
    return with_sign_of(scene, mark, other_mark, 0), (), sign


def after_flip(scene, mark, other_mark):
    need_two_marks(scene, mark, other_mark)
    sign = -need_tied(scene, mark, other_mark)
    return with_sign_of(scene, mark, other_mark, sign), (), sign


def after_turn(scene, marks):
    need_marks(scene, marks)
    web = turned_at(scene.web, [scene.place(mark) for mark in marks])
    # The view stays as it is, so it does not settle any further.
    return scene.with_web(web).with_turned(exchanged(scene.turned, marks)), (), None


def after_draw(scene, mark, other_mark):
    need_two_marks(scene, mark, other_mark)
    gone, kept = scene.place(mark), scene.place(other_mark)
    if scene.web[gone][kept] != 1:
        raise Refused("the two places are no friends")
    if any([one * other < 0 for one, other in zip(scene.web[gone], scene.web[kept])]):
        raise Refused("a place is a friend of the one and a foe of the other")
    return scene.without(drawn_into(scene.web, kept, gone), mark), (), None


def after_shake(scene, marks):
    need_marks(scene, marks)
    shaken, turnings = settled(scene.with_turned(exchanged(scene.turned, marks)))
    if len(foe_list(view_of(shaken))) >= len(foe_list(view_of(scene))):
        raise Refused("the view would not have fewer foes")
    return shaken, marks + turnings, None


def after_relax(scene, number):
    need_number(number)
    return Scene(scene.web, scene.marks, scene.next_mark, scene.turned, number), (), None


DEEDS = {
    "come": after_come, "leave": after_leave, "tie": after_tie, "untie": after_untie, "flip": after_flip,
    "turn": after_turn, "draw": after_draw, "shake": after_shake, "relax": after_relax,
}
VALUES = {
    "come": 2, "leave": 1, "tie": 3, "untie": 2, "flip": 2, "turn": 1, "draw": 2, "shake": 1, "relax": 1,
}


def is_deed(scene, value):
    """Whether any value has the form of a deed; relax is one only where there is a limit."""
    if not isinstance(value, tuple) or value == () or not isinstance(value[0], str) or value[0] not in DEEDS:
        return False
    return len(value) == VALUES[value[0]] + 1 and (value[0] != "relax" or scene.limit is not None)


def step_to(deed, turnings, answer, scene):
    """The step to the scene, whose view settles; OverLimit if there is too much trouble."""
    told, more = settled(scene)
    step = Step(deed, turnings + more, answer, told)
    if scene.limit is not None and step.least > scene.limit:
        raise OverLimit(step.least)
    return step


def first_step(web, limit):
    """The step to the web as it is at the start."""
    many = len(web)
    return step_to(None, (), None, Scene(web, tuple(range(many)), many, (), limit))


def next_step(scene, deed):
    """The step by this deed; InvalidDeeds(0) if it has not the form of one, then what the deed raises."""
    if not is_deed(scene, deed):
        raise InvalidDeeds(0)
    action = DEEDS[deed[0]]
    values = deed[1:]
    told, turnings, answer = action(scene, *values)
    return step_to(deed, turnings, answer, told)
