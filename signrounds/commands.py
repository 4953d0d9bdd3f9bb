"""Commands of the console, read word by word, and deeds as commands."""

from signrounds.errors import InvalidCommand

LETTERS_OF_NAMES = "abcdefghijklmnopqrstuvwxyz"
DIGITS = "0123456789"
SIGNS = {"+": 1, "-": -1}
MOST_LETTERS = 8
MOST_DIGITS = 4


def name_told(word):
    """The name; None if it is none."""
    if not 1 <= len(word) <= MOST_LETTERS or not all([letter in LETTERS_OF_NAMES for letter in word]):
        return None
    return word


def number_told(word):
    """The number or mark; None if it is none."""
    if not 1 <= len(word) <= MOST_DIGITS or not all([digit in DIGITS for digit in word]):
        return None
    return None if word[0] == "0" and word != "0" else int(word)


def sign_told(word):
    """The sign; None if it is none."""
    return SIGNS.get(word)


def signed_told(word):
    """The tuple of a sign and the mark behind it; None if it is none."""
    sign, mark = sign_told(word[:1]), number_told(word[1:])
    return None if sign is None or mark is None else (sign, mark)


def text_told(word):
    """The text, whatever it is; None if there is none."""
    return None if word == "" else word


KINDS = {"name": name_told, "number": number_told, "sign": sign_told, "signed": signed_told, "text": text_told}
PARTS = {
    "web": ("name", "text"), "limited": ("name", "number", "text"), "use": ("name",), "twin": ("name",),
    "forget": ("name",), "same": ("name",), "leave": ("number",), "tie": ("number", "number", "sign"),
    "untie": ("number", "number"), "flip": ("number", "number"), "draw": ("number", "number"), "relax": ("number",),
    "undo": (), "begin": (), "keep": (), "drop": (), "show": (), "view": (), "marks": (), "turned": (),
    "troubles": (), "foes": (), "row": ("number",), "moments": (), "limit": (), "where": (), "paper": (),
    "journal": (),
}
REPEATED = {"come": "signed", "turn": "number", "shake": "number"}


def kinds_behind(word, many):
    """The kinds of so many words behind the first one; None if there are no such commands."""
    if word in REPEATED:
        return (REPEATED[word],) * many
    kinds = PARTS.get(word)
    return kinds if kinds is not None and len(kinds) == many else None


def value_told(kind, word):
    """What the word of this kind tells; None if it is not of this kind."""
    told = KINDS[kind]
    return told(word)


def command_told(text):
    """The tuple of the first word of the command, which is no run, and the list of the values behind it."""
    words = text.split(" ")
    kinds = kinds_behind(words[0], len(words) - 1)
    if kinds is None:
        raise InvalidCommand("there is no such command")
    values = [value_told(kind, word) for kind, word in zip(kinds, words[1:])]
    if None in values:
        raise InvalidCommand("a word of the command is not what it must be")
    return words[0], values


def commands_told(command):
    """The list of the commands of a run; InvalidCommand unless each of them is one."""
    return [command_told(part) for part in command[len("run "):].split("; ")]


def deed_told(word, values):
    """The deed that the command is."""
    if word == "come":
        friends = tuple([mark for sign, mark in values if sign > 0])
        return word, friends, tuple([mark for sign, mark in values if sign < 0])
    if word in REPEATED:
        return word, tuple(values)
    return (word, *values)


def sign_letter(sign):
    """The letter of the sign."""
    return "+" if sign > 0 else "-"


def deed_command(deed):
    """The command of the deed."""
    word, values = deed[0], list(deed[1:])
    if word == "come":
        words = [f"+{mark}" for mark in deed[1]] + [f"-{mark}" for mark in deed[2]]
    elif word in REPEATED:
        words = [str(mark) for mark in deed[1]]
    elif word == "tie":
        words = [str(deed[1]), str(deed[2]), sign_letter(deed[3])]
    else:
        words = [str(value) for value in values]
    return " ".join([word] + words)
