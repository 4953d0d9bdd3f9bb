"""Live webs: signed webs that deeds change, with a view that comes to rest by itself."""

from signrounds.base import foe_list
from signrounds.checks import need_number, need_web
from signrounds.errors import InvalidDeeds, NoSpan, NothingToUndo, SignError
from signrounds.forests import form_of
from signrounds.scenes import first_step, next_step


class Live:
    """A signed web, its view, and the deeds that led there."""

    def __init__(self, web):
        need_web(web)
        self.start = web
        self._set_out(None)

    def __eq__(self, other):
        if not isinstance(other, Live) or self._first != other._first:
            return False
        return self.start == other.start and self.deeds == other.deeds

    @property
    def deeds(self):
        """The list of the deeds that stand, new at each reading."""
        return [step.deed for step in self._steps[1:]]

    def _set_out(self, limit):
        """Begin at the start, with a limit or with None."""
        self._first = limit
        self.recall(([first_step(self.start, limit)], []))

    def memory(self):
        """The steps and the beginnings of the open spans, for recall."""
        return list(self._steps), list(self._spans)

    def recall(self, memory):
        """Become again what memory told."""
        steps, spans = memory
        self._steps = list(steps)
        self._spans = list(spans)
        self._show()

    def _show(self):
        """Set the fields that are read."""
        scene = self._steps[-1].scene
        self.web = scene.web
        self.view = self._steps[-1].view
        self.marks = scene.marks
        self.next_mark = scene.next_mark
        self.turned = scene.turned
        self.depth = len(self._spans)

    def perform(self, deed):
        """Do the deed, told as in deeds, and return what its method returns."""
        step = next_step(self._steps[-1].scene, deed)
        self._steps.append(step)
        self._show()
        return step.answer

    def come(self, friends, foes):
        """A place comes; its mark is returned."""
        return self.perform(("come", friends, foes))

    def leave(self, mark):
        """The place goes."""
        return self.perform(("leave", mark))

    def tie(self, mark, other_mark, sign):
        """The two are tied from now on."""
        return self.perform(("tie", mark, other_mark, sign))

    def untie(self, mark, other_mark):
        """The two are tied no longer; the sign that they had is returned."""
        return self.perform(("untie", mark, other_mark))

    def flip(self, mark, other_mark):
        """The sign of the two changes; the new one is returned."""
        return self.perform(("flip", mark, other_mark))

    def turn(self, marks):
        """The web is turned at these places; the view stays."""
        return self.perform(("turn", marks))

    def draw(self, mark, other_mark):
        """The place of the mark goes into that of the other one."""
        return self.perform(("draw", mark, other_mark))

    def shake(self, marks):
        """The view is turned at these places and settles, with fewer foes."""
        return self.perform(("shake", marks))

    def row(self, number):
        """The marks turned in the view by the deed with this index; None if there is no such deed."""
        need_number(number)
        return self._steps[number + 1].turnings if number + 1 < len(self._steps) else None

    def troubles(self):
        """The troubles of the web behind 0, 1, .. deeds."""
        return [step.least for step in self._steps]

    def view_foes(self):
        """The numbers of foes of the view behind 0, 1, .. deeds."""
        return [len(foe_list(step.view)) for step in self._steps]

    def moments(self):
        """The numbers of deeds, those in one tuple behind which the webs of the same marks are alike."""
        groups = {}
        for at, step in enumerate(self._steps):
            groups.setdefault((step.scene.marks, form_of(step.scene.web)), []).append(at)
        return sorted([tuple(group) for group in groups.values()])

    def would(self, deed):
        """The trouble, the foes of the view and the row that the deed would have as the next one."""
        step = next_step(self._steps[-1].scene, deed)
        return step.least, len(foe_list(step.view)), step.turnings

    def undo(self):
        """Take the last deed back and return it."""
        if len(self._steps) - 1 <= (self._spans[-1] if self._spans else 0):
            raise NothingToUndo("there is no deed that may be taken back")
        step = self._steps.pop()
        self._show()
        return step.deed

    def begin(self):
        """Open a span."""
        self._spans.append(len(self._steps) - 1)
        self._show()

    def keep(self):
        """End the innermost span; its deeds stay."""
        self._end_span()

    def drop(self):
        """End the innermost span and take its deeds back."""
        first = self._end_span()
        del self._steps[first + 1:]
        self._show()

    def _end_span(self):
        """End the innermost span and return how many deeds were there at its beginning."""
        if not self._spans:
            raise NoSpan("no span is open")
        first = self._spans.pop()
        self._show()
        return first

    def twin(self):
        """An independent live web with equal start and deeds, and no span."""
        other = Live(self.start)
        other.recall((self._steps, []))
        return other


class LimitedLive(Live):
    """A live web whose trouble never goes above a limit."""

    def __init__(self, web, limit):
        super().__init__(web)
        need_number(limit)
        self.first_limit = limit
        self._set_out(limit)

    def _show(self):
        """Set the fields that are read."""
        super()._show()
        self.limit = self._steps[-1].scene.limit

    def relax(self, number):
        """The limit is this number from now on."""
        return self.perform(("relax", number))

    def twin(self):
        """An independent live web with equal start, first limit and deeds, and no span."""
        other = LimitedLive(self.start, self.first_limit)
        other.recall((self._steps, []))
        return other


def replay(web, deeds, *, limit=None):
    """A live web, with this limit if it is not None, with these deeds."""
    live = Live(web) if limit is None else LimitedLive(web, limit)
    if not isinstance(deeds, list):
        raise InvalidDeeds(0)
    for at, deed in enumerate(deeds):
        try:
            live.perform(deed)
        except SignError:
            raise InvalidDeeds(at) from None
    return live
