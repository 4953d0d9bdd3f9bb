"""Classes of alike webs: their numbers, their webs, the foes of these, and how far classes lie apart."""

from signrounds.alike import need_same_ties
from signrounds.base import foe_list, piece_list, product_of, tie_list, turned_at
from signrounds.checks import need_number, need_two_webs, need_web
from signrounds.forests import form_by_number, form_number, outer_list


def member_list(web):
    """The webs of the class of the web, ascending."""
    firsts = [piece[0] for piece in piece_list(web)]
    lots = [()]
    # Each web of the class comes once if the least place of each piece is not turned.
    for place in range(len(web)):
        if place not in firsts:
            lots = lots + [lot + (place,) for lot in lots]
    return sorted([turned_at(web, lot) for lot in lots])


def class_total(web):
    """How many classes there are on the ties of the web."""
    return 1 << len(outer_list(web))


def class_count(web):
    """How many classes there are on the ties of the web."""
    need_web(web)
    return class_total(web)


def class_size(web):
    """Of how many webs the class of the web is."""
    need_web(web)
    return 1 << (len(web) - len(piece_list(web)))


def class_number(web):
    """The number of the class of the web."""
    need_web(web)
    return form_number(web)


def nth_class(web, number):
    """The form, with the ties of the web, of the class with this number; None if there are not so many."""
    need_web(web)
    need_number(number)
    return form_by_number(web, number) if number < class_total(web) else None


def member_number(web):
    """The index of the web in the ascending list of the webs of its class."""
    need_web(web)
    return member_list(web).index(web)


def nth_member(web, number):
    """The web of the class with this index; None if there are not so many."""
    need_web(web)
    need_number(number)
    members = member_list(web)
    return members[number] if number < len(members) else None


def foe_counts(web):
    """How many webs of the class have 0, 1, 2 .. foes, up to the number of the ties."""
    need_web(web)
    counts = [0] * (len(tie_list(web)) + 1)
    for member in member_list(web):
        counts[len(foe_list(member))] += 1
    return tuple(counts)


def is_even_web(web):
    """Whether at each place an even number of ties are foes."""
    return all([row.count(-1) % 2 == 0 for row in web])


def even_members(web):
    """The ascending list of the even webs of the class."""
    need_web(web)
    return [member for member in member_list(web) if is_even_web(member)]


def first_change(web, other_web):
    """The first of the fewest ties whose signs changed make both webs alike."""
    need_two_webs(web, other_web)
    need_same_ties(web, other_web)
    # Ties changed make them alike exactly if they are the foes of a web of the class of the product.
    foes_of_members = [tuple(foe_list(member)) for member in member_list(product_of(web, other_web))]
    return min([(len(several), several) for several in foes_of_members])[1]


def changed_to(web, other_web):
    """The first of the fewest ties whose signs changed make the web alike with the other one."""
    return first_change(web, other_web)


def class_gap(web, other_web):
    """How few ties changed make both webs alike."""
    return len(first_change(web, other_web))
