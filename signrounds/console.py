"""A console: live webs that stand by names, and commands that change them and ask about them."""

from signrounds.answers import QUESTIONS, journal_line, row_line
from signrounds.commands import command_told, commands_told, deed_command, deed_told, sign_letter
from signrounds.errors import InvalidCommand, NotReady, Refused, SignError
from signrounds.live import LimitedLive, Live
from signrounds.webs import web_told

DONE = "ok"


def answer_of_deed(live, word, values):
    """Do the deed and tell what it answers."""
    if word == "relax" and not isinstance(live, LimitedLive):
        raise Refused("there is no limit")
    told = live.perform(deed_told(word, values))
    if word == "come":
        return str(told)
    return DONE if told is None else sign_letter(told)


def answer_of_span(live, word):
    """Open or end a span."""
    if word == "begin":
        live.begin()
    elif word == "keep":
        live.keep()
    else:
        live.drop()
    return DONE


class Console:
    """Live webs that stand by names, one of which is chosen."""

    def __init__(self):
        self._lives = {}
        self._chosen = None

    def execute(self, command):
        """Do what the command says and tell its answer."""
        if not isinstance(command, str):
            raise InvalidCommand("a command is a string")
        if command.startswith("run "):
            return self._run(commands_told(command))
        word, values = command_told(command)
        return self._answer(word, values)

    def _run(self, commands):
        """Do all commands, or none of them."""
        lives, chosen = dict(self._lives), self._chosen
        memories = {name: lives[name].memory() for name in lives}
        try:
            return "; ".join([self._answer(word, values) for word, values in commands])
        except SignError:
            for name in lives:
                lives[name].recall(memories[name])
            self._lives, self._chosen = lives, chosen
            raise

    def _live(self, name):
        """The live web that stands by the name; NotReady if there is none."""
        if name not in self._lives:
            raise NotReady("no live web stands there")
        return self._lives[name]

    def _answer(self, word, values):
        """The answer to one command that is no run."""
        if word in ("web", "limited"):
            return self._make(word, values)
        if word in ("use", "forget"):
            return self._choose(word, values[0])
        live = self._live(self._chosen)
        if word == "twin":
            self._lives[values[0]] = live.twin()
            return DONE
        if word == "same":
            return "yes" if live == self._live(values[0]) else "no"
        if word == "journal":
            return journal_line(live, self._chosen)
        if word == "row":
            return row_line(live, values[0])
        if word == "undo":
            return deed_command(live.undo())
        if word in ("begin", "keep", "drop"):
            return answer_of_span(live, word)
        if word in QUESTIONS:
            question = QUESTIONS[word]
            return question(live)
        return answer_of_deed(live, word, values)

    def _make(self, word, values):
        """A live web, or one with a limit, stands by the name and is chosen."""
        web = web_told(values[-1])
        self._lives[values[0]] = Live(web) if word == "web" else LimitedLive(web, values[1])
        self._chosen = values[0]
        return DONE

    def _choose(self, word, name):
        """Choose the live web by the name, or forget it."""
        self._live(name)
        if word == "use":
            self._chosen = name
        else:
            del self._lives[name]
            self._chosen = None if self._chosen == name else self._chosen
        return DONE
