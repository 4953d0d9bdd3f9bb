"""Papers that show that a web is balanced or not, or two webs alike or not, and their texts."""

from signrounds.base import same_ties, sign_of_ring, turned_at
from signrounds.errors import InvalidPaper, InvalidText, NotShown
from signrounds.paper_forms import form_parts
from signrounds.kinds import is_lot_of, is_round_of, is_signed_web
from signrounds.lots import wrong_list
from signrounds.webs import web_text

WORDS = {"c": "camp", "r": "ring", "t": "turned", "u": "unlike"}


def is_camp_paper(web, lot):
    """Whether it is a web and a camp of it."""
    return is_signed_web(web) and is_lot_of(web, lot) and wrong_list(web, lot) == []


def is_ring_paper(web, ring):
    """Whether it is a web and a bad round of it."""
    return is_signed_web(web) and is_round_of(web, ring) and sign_of_ring(web, ring) < 0


def is_turned_paper(web, other_web, lot):
    """Whether it is two webs and a lot that leads from the first to the other one."""
    if not is_signed_web(web) or not is_signed_web(other_web) or not is_lot_of(web, lot):
        return False
    return turned_at(web, lot) == other_web


def is_unlike_paper(web, other_web, ring):
    """Whether it is two webs with the same ties and a round that bears unlike signs in them."""
    if not is_signed_web(web) or not is_signed_web(other_web) or not same_ties(web, other_web):
        return False
    return is_round_of(web, ring) and sign_of_ring(web, ring) != sign_of_ring(other_web, ring)


TESTS = {"camp": is_camp_paper, "ring": is_ring_paper, "turned": is_turned_paper, "unlike": is_unlike_paper}
LENGTHS = {"camp": 3, "ring": 3, "turned": 4, "unlike": 4}


def is_paper(value):
    """Whether any value is a paper."""
    if not isinstance(value, tuple) or len(value) == 0 or not isinstance(value[0], str) or value[0] not in TESTS:
        return False
    parts = value[1:]
    test = TESTS[value[0]]
    return len(value) == LENGTHS[value[0]] and test(*parts)


def paper_text(value):
    """The text of the paper."""
    if not is_paper(value):
        raise InvalidPaper("this is no paper")
    places = "".join([str(place) for place in value[-1]])
    return ";".join([value[0][0]] + [web_text(web) for web in value[1:-1]] + [places])


def unlike_pairs(web, other_web):
    """The pairs of places, ascending, whose signs in the two webs are unlike."""
    many = len(web)
    return [(x, y) for x in range(many) for y in range(x + 1, many) if web[x][y] != other_web[x][y]]


def wrong_pairs(paper):
    """The ties that show what is wrong with a paper that has the form of one."""
    if paper[0] == "camp":
        return wrong_list(paper[1], paper[2])
    if paper[0] == "turned":
        return unlike_pairs(turned_at(paper[1], paper[3]), paper[2])
    return []


def paper_told(text):
    """The paper with this text."""
    if not isinstance(text, str):
        raise InvalidText(0)
    letter, webs, places = form_parts(text)
    paper = (WORDS[letter], *webs, places)
    if not is_paper(paper):
        raise NotShown(tuple(wrong_pairs(paper)))
    return paper
