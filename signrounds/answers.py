"""Answers of the console: what it tells of a live web."""

from signrounds.camps import camp, is_balanced
from signrounds.commands import deed_command
from signrounds.forests import some_bad_ring
from signrounds.live import LimitedLive
from signrounds.paper_texts import paper_text
from signrounds.webs import web_text

NOTHING = "none"


def in_a_line(numbers, between):
    """The numbers with this between them; none if there is no number."""
    return between.join([str(number) for number in numbers]) if numbers else NOTHING


def show_text(live):
    return web_text(live.web)


def view_text(live):
    return web_text(live.view)


def marks_line(live):
    return in_a_line(live.marks, " ")


def turned_line(live):
    return in_a_line(live.turned, " ")


def troubles_line(live):
    return in_a_line(live.troubles(), " ")


def foes_line(live):
    return in_a_line(live.view_foes(), " ")


def moments_line(live):
    return in_a_line([in_a_line(numbers, "+") for numbers in live.moments()], " ")


def limit_line(live):
    return str(live.limit) if isinstance(live, LimitedLive) else NOTHING


def where_line(live):
    return in_a_line([len(live.marks), len(live.deeds), live.depth], " ")


def paper_line(live):
    web = live.web
    paper = ("camp", web, camp(web)) if is_balanced(web) else ("ring", web, some_bad_ring(web))
    return paper_text(paper)


QUESTIONS = {
    "show": show_text, "view": view_text, "marks": marks_line, "turned": turned_line, "troubles": troubles_line,
    "foes": foes_line, "moments": moments_line, "limit": limit_line, "where": where_line, "paper": paper_line,
}


def row_line(live, number):
    """The marks that the deed with this index turned in the view."""
    return in_a_line(live.row(number) or (), "-")


def journal_line(live, name):
    """The command that makes the live web by this name as it was at the start, and those of its deeds."""
    words = ["limited", name, str(live.first_limit)] if isinstance(live, LimitedLive) else ["web", name]
    first = " ".join(words + [web_text(live.start)])
    return "; ".join([first] + [deed_command(deed) for deed in live.deeds])
