import inspect
import unittest
from ast import literal_eval

from signrounds.camps import camp, is_balanced, is_bad_ring
from signrounds.console import Console
from signrounds.errors import (
    InvalidCommand, InvalidCount, InvalidLot, InvalidPlace, InvalidText, NoSpan, NotReady, NothingToUndo, OverLimit,
    Refused, SignError, TooMany,
)
from signrounds.live import LimitedLive, Live
from signrounds.paper_texts import paper_told
from signrounds.webs import web_text, web_told
from tests.calls import many_values
from tests.plain_live import answer_or_error, drawn_deed, Plain
from tests.samples import Draw, circle_web, drawn_webs, empty_web, full_web

TRI = ".-+/-.+/++."
QUESTIONS = "show view marks turned troubles foes moments limit where paper journal".split()


def letter(sign):
    return "+" if sign == 1 else "-"


def command_anew(deed):
    """The command of a deed."""
    name, *values = deed
    if name == "come":
        words = [f"+{mark}" for mark in values[0]] + [f"-{mark}" for mark in values[1]]
    elif name in ("turn", "shake"):
        words = list(values[0])
    elif name == "tie":
        words = [values[0], values[1], letter(values[2])]
    else:
        words = values
    return " ".join(map(str, [name, *words]))


def line(parts, between=" "):
    return between.join(map(str, parts)) or "none"


class Desk:
    """What a console must answer, done anew with live webs; choice and names are kept here."""

    def __init__(self):
        self.lives, self.chosen = {}, None

    def live(self):
        if self.chosen not in self.lives:
            raise NotReady("")
        return self.lives[self.chosen]

    def answer(self, command):
        word, *values = command.split(" ")
        if word in ("web", "limited"):
            web = web_told(values[-1])
            self.lives[values[0]] = Live(web) if word == "web" else LimitedLive(web, int(values[1]))
            self.chosen = values[0]
            return "ok"
        if word in ("use", "forget"):
            if values[0] not in self.lives:
                raise NotReady("")
            if word == "use":
                self.chosen = values[0]
            else:
                del self.lives[values[0]]
                self.chosen = self.chosen if self.chosen in self.lives else None
            return "ok"
        live = self.live()
        if word == "twin":
            self.lives[values[0]] = live.twin()
            return "ok"
        if word == "same":
            if values[0] not in self.lives:
                raise NotReady("")
            return "yes" if live == self.lives[values[0]] else "no"
        return self.deed(live, word, values) or self.question(live, word, values)

    def deed(self, live, word, values):
        if word == "come":
            friends = tuple(int(value[1:]) for value in values if value[0] == "+")
            return str(live.come(friends, tuple(int(value[1:]) for value in values if value[0] == "-")))
        if word in ("untie", "flip"):
            return letter(getattr(live, word)(*map(int, values)))
        if word in ("turn", "shake"):
            getattr(live, word)(tuple(map(int, values)))
            return "ok"
        if word == "tie":
            live.tie(int(values[0]), int(values[1]), 1 if values[2] == "+" else -1)
            return "ok"
        if word == "relax" and type(live) is Live:
            raise Refused("")
        if word in ("leave", "draw", "relax", "begin", "keep", "drop"):
            getattr(live, word)(*map(int, values))
            return "ok"
        return command_anew(live.undo()) if word == "undo" else None

    def question(self, live, word, values):
        journal = [f"limited {self.chosen} {live.first_limit}" if type(live) is LimitedLive else f"web {self.chosen}"]
        journal[0] += " " + web_text(live.start)
        return {
            "show": web_text(live.web), "view": web_text(live.view), "marks": line(live.marks),
            "turned": line(live.turned), "troubles": line(live.troubles()), "foes": line(live.view_foes()),
            "row": line(live.row(int(values[0])) or (), "-") if word == "row" else None,
            "moments": line(line(group, "+") for group in live.moments()),
            "limit": str(live.limit) if type(live) is LimitedLive else "none",
            "where": f"{len(live.marks)} {len(live.deeds)} {live.depth}",
            "journal": "; ".join(journal + list(map(command_anew, live.deeds))),
            "paper": None,
        }[word]

    def state(self):
        """All there is to know, for a comparison later."""
        told = {name: [live.deeds, live.depth, live.web, live.view, live.turned, live.next_mark, type(live)]
                for name, live in self.lives.items()}
        return repr((sorted(told.items(), key=lambda pair: pair[0]), self.chosen))


def state_of(console, names):
    """All that a console tells of the live webs by these names, and which one is chosen; it is left as it was."""
    told = [answer_or_error(console.execute, "journal"), answer_or_error(console.execute, "where")]
    chosen = told[0][1].split(" ")[1] if told[0][0] == "told" else None
    for name in names:
        several = [answer_or_error(console.execute, f"use {name}")]
        if several[0][0] == "told":
            several += [answer_or_error(console.execute, question) for question in QUESTIONS if question != "paper"]
            several += [answer_or_error(console.execute, f"row {at}") for at in range(4)]
        told.append(several)
    # Whoever forgets the chosen one chooses none.
    for command in (f"use {chosen}",) if chosen is not None else ("web zzz .", "forget zzz"):
        console.execute(command)
    return repr(told)


def drawn_command(draw, desk):
    """A command, mostly one that goes with what is there."""
    names = ["a", "b", "cc"]
    choice = draw.below(20)
    if choice == 0 or desk.chosen is None and draw.below(3):
        text = web_text(draw.web(1 + draw.below(6), 60))
        text = text if draw.below(6) else text + "."
        return draw.one([f"web {draw.one(names)} {text}", f"limited {draw.one(names)} {draw.below(5)} {text}"])
    if choice < 4:
        return f"{draw.one(['use', 'use', 'twin', 'twin', 'forget', 'same', 'same'])} {draw.one(names)}"
    if choice < 7:
        return draw.one(["undo", "begin", "begin", "keep", "drop"])
    if choice < 10:
        question = draw.one(QUESTIONS + ["row"])
        return f"row {draw.below(5)}" if question == "row" else question
    if desk.chosen is None:
        return "show"
    live = desk.lives[desk.chosen]
    situation = Plain(live.web).last()
    deed = drawn_deed(draw, situation, True, 0)
    moved = dict(zip(range(len(live.marks)), live.marks))
    values = [tuple(moved[mark] for mark in value) if isinstance(value, tuple) else value for value in deed[1:]]
    if deed[0] in ("leave", "untie", "flip", "draw", "tie"):
        values[:2] = [moved[mark] for mark in values[:2]]
    return command_anew((deed[0], *values))


class Answers(unittest.TestCase):
    def same(self, console, desk, command):
        told = answer_or_error(console.execute, command)
        if command == "paper" and desk.chosen is not None:
            self.check_paper(literal_eval(told[1]), desk.live().web)
        else:
            self.assertEqual(told, answer_or_error(desk.answer, command), command)
        return told[0]

    def check_paper(self, text, web):
        word, same, last = paper_told(text)
        self.assertEqual(same, web)
        if is_balanced(web):
            self.assertEqual((word, last), ("camp", camp(web)))
        else:
            self.assertTrue(word == "ring" and is_bad_ring(web, last))

    def test_drawn_commands(self):
        draw = Draw(1101)
        kinds = {}
        for _ in range(25):
            console, desk = Console(), Desk()
            for _ in range(60):
                command = drawn_command(draw, desk)
                kind = (command.split(" ")[0], self.same(console, desk, command))
                kinds[kind] = kinds.get(kind, 0) + 1
            for question in QUESTIONS + ["row 0", "row 1"]:
                self.same(console, desk, question)
        for word in QUESTIONS + """come leave tie untie flip turn draw shake relax undo begin keep drop web limited use
                twin forget same row""".split():
            self.assertGreater(kinds.get((word, "told"), 0), 0, word)
        for kind in (("show", "NotReady"), ("use", "NotReady"), ("same", "NotReady"), ("forget", "NotReady"),
                     ("web", "InvalidText"), ("limited", "OverLimit"), ("relax", "Refused"), ("keep", "NoSpan"),
                     ("undo", "NothingToUndo"), ("shake", "Refused"), ("tie", "Refused")):
            self.assertIn(kind, kinds)

    def test_runs_of_drawn_commands(self):
        draw = Draw(1102)
        good = wrong = 0
        for _ in range(15):
            console, desk = Console(), Desk()
            for _ in range(25):
                ahead, before = desk.state(), state_of(console, ["a", "b", "cc"])
                trial = Desk()
                trial.lives = {name: live.twin() for name, live in desk.lives.items()}
                for name, live in desk.lives.items():
                    # A twin has no spans: they are opened again at the same numbers of deeds.
                    trial.lives[name].recall(live.memory())
                trial.chosen = desk.chosen
                commands = []
                told, error = [], None
                for _ in range(1 + draw.below(6)):
                    command = drawn_command(draw, trial)
                    if command == "paper":
                        continue
                    commands.append(command)
                    if error is None:
                        kind = answer_or_error(trial.answer, command)
                        if kind[0] == "told":
                            told.append(literal_eval(kind[1]))
                        else:
                            error = kind
                if not commands:
                    continue
                answer = answer_or_error(console.execute, "run " + "; ".join(commands))
                if error is None:
                    self.assertEqual(answer, ("told", repr("; ".join(told))))
                    desk = trial
                    good += 1
                else:
                    self.assertEqual(answer, error)
                    self.assertEqual([desk.state(), state_of(console, ["a", "b", "cc"])], [ahead, before])
                    wrong += 1
        self.assertTrue(good > 20 and wrong > 20)

    def test_each_answer(self):
        console = Console()
        for command, told in (
            ("web a .+-/+.+/-+.", "ok"), ("limit", "none"), ("turned", "none"), ("marks", "0 1 2"), ("troubles", "1"),
            ("foes", "1"), ("moments", "0"), ("where", "3 0 0"), ("row 0", "none"), ("show", ".+-/+.+/-+."),
            ("view", ".+-/+.+/-+."), ("paper", "r;.+-/+.+/-+.;012"), ("journal", "web a .+-/+.+/-+."),
            ("flip 0 1", "-"), ("row 0", "0"), ("turned", "0"), ("come +0 -2", "3"), ("come", "4"), ("row 1", "3"),
            ("row 2", "none"),
            ("row 9999", "none"), ("turn 0 3", "ok"), ("turned", "none"), ("moments", "0 1 2 3+4"), ("tie 4 0 -", "ok"),
            ("troubles", "1 0 0 0 0 0"), ("untie 4 0", "-"), ("flip 1 0", "-"), ("leave 1", "ok"), ("marks", "0 2 3 4"),
            ("begin", "ok"), ("begin", "ok"), ("where", "4 8 2"), ("keep", "ok"), ("come -0 +2", "5"),
            ("undo", "come +2 -0"), ("turn", "ok"), ("undo", "turn"), ("turn 2 3", "ok"), ("drop", "ok"),
            ("where", "4 8 0"), ("undo", "leave 1"), ("undo", "flip 1 0"), ("undo", "untie 4 0"),
            ("undo", "tie 4 0 -"), ("undo", "turn 0 3"), ("undo", "come"), ("undo", "come +0 -2"), ("undo", "flip 0 1"),
            ("same a", "yes"), ("twin b", "ok"), ("same b", "yes"), ("flip 0 1", "-"), ("same b", "no"),
            ("use b", "ok"), ("where", "3 0 0"), ("limited cc 2 .--/-.-/--.", "ok"), ("limit", "2"),
            ("relax 12", "ok"), ("limit", "12"),
            ("journal", "limited cc 2 .--/-.-/--.; relax 12"), ("undo", "relax 12"), ("limit", "2"), ("same a", "no"),
            ("begin", "ok"), ("twin cc", "ok"), ("where", "3 0 0"), ("forget a", "ok"), ("where", "3 0 0"),
            ("forget cc", "ok"), ("use b", "ok"), ("untie 0 1", "+"), ("draw 0 2", None), ("shake", None),
            ("web one .", "ok"), ("show", "."), ("paper", "c;.;0"), ("journal", "web one ."),
        ):
            if told is None:
                with self.assertRaises(Refused):
                    console.execute(command)
            else:
                self.assertEqual(console.execute(command), told, command)

    def test_shake_and_draw(self):
        console = Console()
        console.execute("web six .-...+/-.+.../.+.+../..+.-./...-.+/+...+.")
        self.assertEqual([console.execute(command) for command in
                          ("foes", "shake 0 4 5", "row 0", "turned", "foes", "draw 1 2", "marks", "undo", "undo")],
                         ["2", "ok", "0-4-5", "0 4 5", "2 0", "ok", "0 2 3 4 5", "draw 1 2", "shake 0 4 5"])

    def test_a_journal_of_a_twin_tells_its_own_name(self):
        console = Console()
        console.execute("run limited first 3 " + TRI + "; flip 0 1; twin second; use second; come +0; relax 5")
        told = "limited second 3 .-+/-.+/++.; flip 0 1; come +0; relax 5"
        self.assertEqual(console.execute("journal"), told)
        console.execute("use first")
        self.assertEqual(console.execute("journal"), "limited first 3 .-+/-.+/++.; flip 0 1")

    def test_use_of_the_chosen_ones_own_name(self):
        console = Console()
        console.execute("run web a " + TRI + "; begin; flip 0 1; twin a; flip 0 2")
        self.assertEqual([console.execute("where"), console.execute("undo")], ["3 2 0", "flip 0 2"])
        console.execute("run twin b; begin; twin b")
        self.assertEqual([console.execute("where"), console.execute("use b"), console.execute("where")],
                         ["3 1 1", "ok", "3 1 0"])

    def test_a_name_that_is_taken_again(self):
        console = Console()
        console.execute("run web a " + TRI + "; web b .; web a .+/+.")
        self.assertEqual([console.execute("show"), console.execute("use b"), console.execute("show")],
                         [".+/+.", "ok", "."])
        console.execute("forget b")
        with self.assertRaises(NotReady):
            console.execute("show")
        with self.assertRaises(NotReady):
            console.execute("use b")
        self.assertEqual([console.execute("use a"), console.execute("forget a")], ["ok", "ok"])

    def test_consoles_are_their_own(self):
        one, other = Console(), Console()
        one.execute("web a .")
        with self.assertRaises(NotReady):
            other.execute("use a")

    def test_64_commands_of_ten_places(self):
        draw = Draw(1103)
        plain, live = Plain(full_web(10, -1)), Live(full_web(10, -1))
        while len(live.deeds) < 60:
            deed = drawn_deed(draw, plain.last(), False, 0)
            if answer_or_error(plain.do, deed)[0] == "told":
                getattr(live, deed[0])(*deed[1:])
        commands = ["web a " + web_text(live.start), *map(command_anew, live.deeds), "troubles", "moments", "show"]
        self.assertEqual(len(commands), 64)
        told = Console().execute("run " + "; ".join(commands)).split("; ")
        moments = line(line(group, "+") for group in live.moments())
        self.assertEqual(told[61:], [line(live.troubles()), moments, web_text(live.web)])


class Commands(unittest.TestCase):
    GOOD = """web a .|web abcdefgh ./|web z x|limited a 0 .|limited a 9999 ;|use a|twin a|forget a|same a|come|come +0|
    come -0|come +9999 -1 +2|come +1 +0|leave 0|leave 1234|tie 0 1 +|tie 1 0 -|untie 0 1|flip 10 0|turn|turn 0|
    turn 3 2 1|draw 0 1|shake|shake 0 1|relax 0|relax 9999|undo|begin|keep|drop|show|view|marks|turned|troubles|foes|
    row 0|row 10|moments|limit|where|paper|journal|run show|run show; show|run web a .; show|web run .|use run|
    web web web|web a ;|run web a ;; show|run web a ;;;; use a"""
    WRONG = """|web|web a|web a .  |web  a .| web a .|web a . .|Web a .|web A .|web a1 .|web abcdefghi .|web  .|
    web a  .|limited a .|limited a 00 .|limited a 01 .|limited a -1 .|limited a +1 .|limited a 12345 .|limited a x .|
    limited a 1|come 10|come x1|come +1 10|use|use a b|use A|use a |twin|forget|forget a b|same|same 1|come 0|come +|come -|come +0 |come ++0|
    come +00|come +12345|come + 0|come 0+|come +-0|come +a|leave|leave 0 1|leave 00|leave -1|leave a|leave 12345|
    tie 0 1|tie 0 1 1|tie 0 1 ++|tie 0 1 + |tie 0 + 1|tie 0 1 -1|untie 0|untie 0 1 +|flip 0|flip 0 1 2|flip 01 1|
    turn +0|turn 0,1|turn 0  1|turn 01|draw 0|draw|shake x|relax|relax 00|relax 1 2|relax -1|undo 1|undo |begin x|
    keep 0|drop a|show a|view 0|marks 0|turned x|troubles 0|foes 0|row|row 0 1|row 00|row -1|row x|moments 0|
    limit 3|where a|paper c|journal a|run|run |run  show|run show;|run show; |run show;show|run show ; show|
    run show;  show|run run show|run show; run show|run ; show|run show; ; show|SHOW|shows|sho|help|quit|undo; undo|
    show; show|web a .; show|leave 1.0|leave 1_0|row 0x1"""

    def commands(self, told):
        return [one.lstrip("\n").removeprefix("    ") if "\n" in one else one for one in told.split("|")]

    def test_commands(self):
        for command in self.commands(self.GOOD):
            console = Console()
            try:
                console.execute(command)
            except InvalidCommand:
                self.fail(command)
            except SignError:
                pass
        wrong = self.commands(self.WRONG)
        for command in wrong + ["show\n", "\nshow", "show\t", "turn 0\t1", "turn\t0", "leave 0\n", "run show;\nshow",
                                "web a\n.", "x" * 20000, "run " + "show; " * 3000, "come" + " +0" * 2000 + " "]:
            console = Console()
            console.execute("web a " + TRI)
            with self.assertRaises(InvalidCommand, msg=command):
                console.execute(command)
            self.assertEqual([console.execute("journal"), console.execute("where")], ["web a " + TRI, "3 0 0"])

    def test_any_value(self):
        for value in many_values() + [None, 0, True, ("show",), ["show"], ("web", "a", ".")]:
            console = Console()
            console.execute("web a .")
            if value != "show":
                with self.assertRaises(InvalidCommand):
                    console.execute(value)

    def test_characters_that_are_no_blanks(self):
        # A text goes up to the next blank, whatever stands in it.
        for text, index in (("\t", 0), ("\n", 0), (".\n", 1), (".;", 1), (";", 0), (".+/+.\t", 5), (".,.", 1)):
            with self.assertRaises(InvalidText) as caught:
                Console().execute("web a " + text)
            self.assertEqual(caught.exception.index, index)
            with self.assertRaises(InvalidText) as caught:
                Console().execute(f"run limited a 3 {text}; show")
            self.assertEqual(caught.exception.index, index)


class Errors(unittest.TestCase):
    def test_not_ready(self):
        for command in QUESTIONS + """row 0;come;leave 0;tie 0 1 +;untie 0 1;flip 0 1;turn;draw 0 1;shake;relax 0;undo;
                begin;keep;drop;twin a;same a;use a;forget a""".replace("\n", "").replace(" " * 16, "").split(";"):
            console = Console()
            with self.assertRaises(NotReady, msg=command):
                console.execute(command)
            with self.assertRaises(NotReady):
                console.execute("run web b .; forget b; " + command)
        console = Console()
        console.execute("web a .")
        for command in ("use b", "forget b", "same b"):
            with self.assertRaises(NotReady):
                console.execute(command)
        self.assertEqual([console.execute("same a"), console.execute("twin b"), console.execute("same b")],
                         ["yes", "ok", "yes"])

    def test_in_their_sequence(self):
        for error, ahead, command in (
            (InvalidCommand, "", "run use a; leave"), (NotReady, "", "run use a; web b x"),
            (InvalidText, "", "limited a 0 .-+/-.+/+-."), (OverLimit, "", "limited a 0 " + TRI),
            (Refused, "web a .", "relax 0"), (InvalidPlace, "web a " + TRI, "leave 3"),
            (InvalidPlace, "web a " + TRI, "tie 0 0 +"), (Refused, "web a " + TRI, "tie 0 1 +"),
            (InvalidPlace, "web a " + TRI, "tie 0 3 +"), (Refused, "web a .", "leave 0"),
            (Refused, "web a " + web_text(empty_web(2)), "untie 0 1"), (Refused, "web a " + TRI, "draw 0 1"),
            (InvalidLot, "web a " + TRI, "turn 1 0"), (InvalidLot, "web a " + TRI, "shake 0 0"),
            (InvalidLot, "web a " + TRI, "come +1 +0"), (InvalidLot, "web a " + TRI, "come -1 +0 -0"),
            (Refused, "web a " + TRI, "come -1 +0 +1"), (InvalidLot, "web a " + TRI, "come +3"),
            (TooMany, "web a " + web_text(circle_web(10, True)), "come"), (Refused, "web a " + TRI, "shake"),
            (NoSpan, "web a .", "keep"), (NoSpan, "web a .", "drop"), (NothingToUndo, "web a .", "undo"),
            (NothingToUndo, "run web a .; come; begin", "undo"), (OverLimit, "limited a 0 .+/+.", "come +0 -1"),
            (OverLimit, "limited a 1 " + TRI, "relax 0"),
        ):
            console = Console()
            if ahead:
                console.execute(ahead)
            before = state_of(console, ["a"])
            for told in (command, "run " + command) if not command.startswith("run ") else (command,):
                with self.assertRaises(error, msg=command) as caught:
                    console.execute(told)
                self.assertIs(type(caught.exception), error)
                self.assertEqual(state_of(console, ["a"]), before)

    def test_fields_of_errors(self):
        console = Console()
        for command, field, value in (("web a .-+/-+.", "index", 5), ("limited a 0 " + TRI, "count", 1)):
            with self.assertRaises(SignError) as caught:
                console.execute(command)
            self.assertEqual(getattr(caught.exception, field), value)

    def test_a_number_of_a_limit_is_always_one(self):
        with self.assertRaises(InvalidCommand):
            Console().execute("limited a -1 .")
        with self.assertRaises(InvalidCount):
            LimitedLive(((0,),), -1)


class Runs(unittest.TestCase):
    def test_all_is_taken_back(self):
        for last in ("leave 9", "use nowhere", "web x y", "limited x 0 " + TRI, "undo", "drop", "relax 1", "flip 0 0",
                     "come +9", "shake", "same nowhere", "forget nowhere"):
            console = Console()
            console.execute("run web a " + TRI + "; begin; flip 0 1; limited b 4 .+/+.; come +0; begin; relax 6; use a")
            before = state_of(console, ["a", "b", "c", "x"])
            for middle in ("flip 0 2; come; begin", "undo", "undo; keep", "drop", "twin b", "forget b",
                           "forget a; use b", "use b; undo", "use b; drop", "use b; relax 9; begin; begin",
                           "web c .; come; come",
                           "web a .", "web b .+/+.", "twin a; flip 0 1", "use b; keep; undo; undo; use a"):
                if last in ("undo", "drop", "relax 1"):
                    middle += "; web c ."
                with self.assertRaises(SignError):
                    console.execute(f"run {middle}; {last}")
                self.assertEqual(state_of(console, ["a", "b", "c", "x"]), before, (middle, last))
            self.assertEqual([console.execute(command) for command in ("where", "undo", "drop", "where")],
                             ["3 1 1", "flip 0 1", "ok", "3 0 0"])

    def test_commands_are_looked_at_ahead_of_the_first_one(self):
        console = Console()
        for wrong in ("run web a .; nothing", "run web a .; run show", "run use a; leave", "run web a .; come; "):
            with self.assertRaises(InvalidCommand):
                console.execute(wrong)
            with self.assertRaises(NotReady):
                console.execute("show")
        with self.assertRaises(InvalidText):
            console.execute("run web a .; web b ./; forget nobody")
        with self.assertRaises(NotReady):
            console.execute("use a")

    def test_answers(self):
        console = Console()
        told = console.execute("run web a .+-/+.+/-+.; flip 0 1; journal; limited b 3 .; same a; limit; use a; same b")
        self.assertEqual(told, "ok; -; web a .+-/+.+/-+.; flip 0 1; ok; no; 3; ok; no")
        self.assertEqual(console.execute("run where"), "3 1 0")


class Interface(unittest.TestCase):
    def test_class_and_method(self):
        self.assertEqual(str(inspect.signature(Console)), "()")
        self.assertIn("execute", vars(Console))
        self.assertEqual(str(inspect.signature(Console.execute)), "(self, command)")
        self.assertEqual(Console.__module__, "signrounds.console")
        self.assertEqual([name for name in vars(Console()) if not name.startswith("_")], [])
        self.assertEqual(Console().execute(command="web a ."), "ok")


class Facts(unittest.TestCase):
    def test_o3_the_journal_makes_an_equal_one(self):
        draw = Draw(1111)
        for at, web in enumerate(drawn_webs(1111, 3, 1, 8)):
            console, desk = Console(), Desk()
            first = f"web a {web_text(web)}" if at % 2 else f"limited a 20 {web_text(web)}"
            for command in [first, "begin"]:
                console.execute(command)
                desk.answer(command)
            for _ in range(25):
                command = drawn_command(draw, desk)
                if command.split(" ")[0] not in ("web", "limited", "use", "forget", "twin", "same"):
                    told = answer_or_error(console.execute, command)
                    if command != "paper":
                        self.assertEqual(told, answer_or_error(desk.answer, command))
            journal = console.execute("journal")
            again = Console()
            again.execute("run " + journal)
            for question in QUESTIONS + [f"row {number}" for number in range(26)]:
                if question not in ("where", "paper"):
                    self.assertEqual(again.execute(question), console.execute(question))
            self.assertEqual(again.execute("paper"), console.execute("paper"))
            other = Desk()
            for command in journal.split("; "):
                other.answer(command)
            self.assertTrue(other.live() == desk.live())
            # Beside the first one, under another name, it is the same.
            console.execute("run twin b; " + journal)
            self.assertEqual(console.execute("same b"), "yes")


if __name__ == "__main__":
    unittest.main()
