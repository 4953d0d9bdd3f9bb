"""Reading the forms that the texts of papers have, each letter as far as some form goes on with it."""

from signrounds.errors import InvalidText
from signrounds.kinds import MOST_PLACES
from signrounds.webs import LETTERS, letters_at, web_told

DIGITS = "0123456789"
LEAST_FOR_RING = 3


def need_letter(text, at, letters):
    """InvalidText with this index unless one of the letters stands there."""
    if at >= len(text) or text[at] not in letters:
        raise InvalidText(at)


def line_length(text, start, least):
    """How many letters of a line of a web stand from the start on; InvalidText if they are fewer than the least."""
    many = 0
    while many < MOST_PLACES and start + many < len(text) and text[start + many] in LETTERS:
        many += 1
    # The first letter is looked at ahead of the end of a line that is too short.
    need_letter(text, start, ".")
    if many < least:
        raise InvalidText(start + many)
    return many


def read_web(text, start, many):
    """The web of so many places whose text begins at the start."""
    length = many * many + many - 1
    part = text[start:start + length]
    for at in range(length):
        need_letter(text, start + at, letters_at(part, many, at))
    return web_told(part)


def is_told_ring(row):
    """Whether the digits are unlike, three or more, the first the least, the second less than the last."""
    return len(row) >= LEAST_FOR_RING and len(set(row)) == len(row) and row[0] == min(row) and row[1] < row[-1]


def begins_ring(row, many):
    """Whether some ring of so many places begins with these digits."""
    rest = [digit for digit in range(row[0] + 1, many) if digit not in row]
    return is_told_ring(row) or is_told_ring(row + rest)


def next_places(row, many, is_ring):
    """The places that may follow those of the row, in a ring or in a lot."""
    if is_ring:
        return [place for place in range(many) if begins_ring(row + [place], many)]
    return [place for place in range(many) if not row or row[-1] < place]


def read_places(text, start, many, is_ring):
    """The places told by the digits from the start to the end of the text."""
    row = []
    for at in range(start, len(text)):
        need_letter(text, at, [DIGITS[place] for place in next_places(row, many, is_ring)])
        row.append(DIGITS.index(text[at]))
    if is_ring and not is_told_ring(row):
        raise InvalidText(len(text))
    return tuple(row)


def form_parts(text):
    """The letter, the list of webs and the places of the form; InvalidText unless the text is one."""
    need_letter(text, 0, "crtu")
    letter = text[0]
    is_ring = letter in ("r", "u")
    need_letter(text, 1, ";")
    many = line_length(text, 2, LEAST_FOR_RING if is_ring else 1)
    at = 2
    webs = []
    for _ in range(2 if letter in ("t", "u") else 1):
        webs.append(read_web(text, at, many))
        at += many * many + many
        need_letter(text, at - 1, ";")
    return letter, webs, read_places(text, at, many, is_ring)
