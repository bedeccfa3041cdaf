"""[L2], and of [L3] what is said of shells."""

import inspect
import random
import unittest

from guardbooks.booktexts import entry_text
from guardbooks.shells import Shell
from guardbooks.standings import start
from tests.bookpool import ENTRIES
from tests.deedmodel import drawn_deed
from tests.shellmodel import ModelShell
from tests.standingpool import FULL_HANDS, WIDE, random_standings
from tests.support import GuardCase, ODD_VALUES, PAIR, Quickly
from tests.test_standingtexts import text_of

NAMES = ("plain", "dijkstra", "steele", "yuasa", "baker", "hybrid")
LOOKS = ("show", "version", "cycles", "due", "freed", "reached", "lost", "floating")
YARD_LINES = LOOKS + (
    "sweep", "cycle", "undo", "mark 1", "mark 0", "mark 999", "look 0", "scan 99", "drop 0 0", "copy 0 0 1", "make 0 0 0",
    "read 0 0 0 0", "write 0 0 0 0", "write 0 0 0 none", "look 99")

# What looks like a line, and is none, whether there is a yard or not.
NO_LINES = (
    "", " ", "what", "ok", "none", "book", "book ", "book  plain", "book plain ", "book plain  pieces", "book pieces", "book Plain",
    "book plain pieces ", "book baker piece", "book plain last", "book baker dijkstra", " book plain", "Book plain", "with", "without",
    "Last", "last ", " last", "last 1", "pieces ", "pieces pieces", "entries ", "entries none", "entry", "safe", "safe ", "safe 01",
    "safe 1000", "safe -1", "safe 1 ", "safe  1", "safe one", "safe 1 1", "safe +1", "yard", "yards", "Yard 1 1 1", " yard 1 1 1",
    "look", "look ", "look 00", "look 100", "look -1", "look none", "look 0 0", "look 0 ", "look  0", "scan 01", "drop 0 100", "drop 0",
    "copy 0 0", "make 0 0", "make 0 0 none", "read 0 0 0 none", "write 0 0 0", "write 0 0 none 0", "write 0 0 0 None", "write 0 0 0 -",
    "mark", "mark ", "mark 01", "mark 1000", "mark -1", "mark none", "mark 1 1", "mark 1.", "sweep ", "sweep 1", "sweeps", "cycle ",
    "cycle 1", "cycle none", "undo ", "undo 1", "twin", "edit", "show ", " show", "shows", "show 1", "version 1", "versions", "cycles 1",
    "due ", "due sweep", "freed ", "reached 1", "lost ", "lose", "floating ", "float", "make", "read", "write", "drop", "copy", "scan",
    "show\n", "\nshow", "last\n", "show\nshow", "book plain\n", "sweep\n", "mark 1\n", "safe 1\n", "look 0\n", "x" * 20000,
    "\n" * 20000, "_yard", "__init__", "say", "log", "standing", "book plain\tpieces", "safe \u0661", "mark \u0661")


def fresh(*lines):
    shell = Shell()
    for line in lines:
        shell.say(line)
    return shell


def look_over(shell):
    """All that a shell tells without being changed by it."""
    return [shell.say(line) for line in (*LOOKS, "entries", "safe 1", "safe 2", "safe 3", "safe 4")]


def drawn_line(chance, standing):
    """A line of any kind, mostly one that does something."""
    kind = chance.random()
    if kind < 0.1:
        return chance.choice((
            f"book {chance.choice(NAMES)}", f"book {chance.choice(NAMES)} pieces", f"with {entry_text(chance.choice(ENTRIES))}",
            f"without {entry_text(chance.choice(ENTRIES))}", "last", "pieces"))
    if kind < 0.2:
        return chance.choice(("entries", "safe 1", "safe 2", "safe 4", "safe 5", "safe 0", "with make", "without ", "with last "))
    if kind < 0.24 or standing is None and kind < 0.6:
        return chance.choice((
            f"yard {chance.randrange(6)} {chance.randrange(6)} {chance.choice((0, 3, 40, 41, 999))}", "yard 1 2 3", "yard 2 2 4",
            "yard " + text_of(start(PAIR, ((0, None), (1, 0)), 2)), "yard " + text_of(chance.choice(random_standings()[:20])),
            "yard cell white\ncell free\nhand unlooked 0 -", "yard foo", "yard "))
    if kind < 0.4:
        return chance.choice(LOOKS)
    if kind < 0.6:
        return chance.choice(("sweep", "cycle", "undo", "mark 1", "mark 2", "mark 40", "mark 400", "mark 0", "mark 401"))
    if kind < 0.65 or standing is None:
        return chance.choice(NO_LINES)
    word = chance.choice(("drop", "copy", "make", "read", "write", "read", "write", "look", "scan"))
    return " ".join("none" if item is None else str(item) for item in drawn_deed(chance, standing, word))


class SayTest(GuardCase):

    def assert_says(self, shell, *pairs):
        for line, answer in pairs:
            self.assertEqual(repr(shell.say(line)), repr(answer), line)

    def test_drawn_lines(self):
        chance = random.Random(171)
        found = {}
        for _ in range(60):
            shell, model = Shell(), ModelShell()
            for _ in range(80):
                line = drawn_line(chance, None if model.yard is None else model.yard.standing)
                expected = model.say(line)
                self.assertEqual(repr(shell.say(line)), repr(expected), line)
                found[line.split(" ")[0], expected if expected.startswith("error") else expected[:4]] = True
        for pair in (("sweep", "error Lost"), ("sweep", "error Unfit"), ("write", "error Refused"), ("yard", "error BadStanding"),
                     ("yard", "error BadText"), ("yard", "error Unfit"), ("undo", "error NothingToUndo"), ("sweep", "vers")):
            self.assertIn(pair, found)

    def test_two_shells_by_turns(self):
        chance = random.Random(172)
        shells, models = [Shell(), Shell()], [ModelShell(), ModelShell()]
        for _ in range(600):
            at = chance.randrange(2)
            line = drawn_line(chance, None if models[at].yard is None else models[at].yard.standing)
            self.assertEqual(shells[at].say(line), models[at].say(line), line)

    def test_books(self):
        for name in NAMES:
            for form in (f"book {name}", f"book {name} pieces"):
                shell, model = Shell(), ModelShell()
                for line in (form, "entries", "safe 1", "safe 2", "pieces", "safe 2", "last", "safe 3", "last", "entries", "pieces", "safe 1"):
                    self.assertEqual(shell.say(line), model.say(line), (form, line))

    def test_entries(self):
        for entry in ENTRIES:
            text = entry_text(entry)
            shell = fresh()
            self.assert_says(
                shell, (f"without {text}", "ok"), ("entries", "none"), (f"with {text}", "ok"), ("entries", text), (f"with {text}", "ok"),
                ("entries", text), (f"without {text}", "ok"), ("entries", "none"))
        shell = fresh(*[f"with {entry_text(entry)}" for entry in ENTRIES])
        self.assert_says(shell, ("entries", "; ".join(entry_text(entry) for entry in sorted(ENTRIES))))
        for text in ("", " ", " last", "last ", "make looked black", "pieces", "read", "last\n", "with last"):
            self.assert_says(shell, (f"with {text}", "error BadText"), (f"without {text}", "error BadText"))

    def test_what_is_told_of_a_made_colour(self):
        """By "with" black is made."""
        shell = fresh("with make unlooked", "yard 1 1 2", "make 0 0 1")
        self.assert_says(shell, ("show", "cell black -\ncell free\nhand unlooked 0"))

    def test_safe(self):
        shell = fresh("book hybrid", "with read looked white", "with read looked grey")
        for hands in range(1000):
            self.assert_says(shell, (f"safe {hands}", "child old read" if 1 <= hands <= 4 else "error Unfit"))
        self.assert_says(shell, ("pieces", "ok"), ("safe 1", "none"), ("book yuasa", "ok"), ("safe 1", "old"), ("safe 2", "none"))

    def test_lines_that_are_none(self):
        for shell in (fresh(), fresh("yard 1 2 3"), fresh("yard 1 2 3", "make 0 0 1", "mark 1")):
            ahead = look_over(shell)
            for line in NO_LINES:
                self.assert_says(shell, (line, "what"))
            self.assertEqual(look_over(shell), ahead)

    def test_what_is_no_string(self):
        for shell in (fresh(), fresh("yard 1 2 3", "cycle")):
            ahead = look_over(shell)
            for value in [*ODD_VALUES, Shell(), ("show",), ["show"], b"show"]:
                if type(value) is not str:
                    self.assert_says(shell, (value, "what"))
            self.assertEqual(look_over(shell), ahead)

    def test_strings_of_all_kinds(self):
        for value in ODD_VALUES:
            if type(value) is str:
                for word in ("", "with ", "without ", "yard ", "book ", "safe ", "mark ", "look "):
                    self.assertEqual(fresh().say(word + value), ModelShell().say(word + value))

    def test_without_a_yard(self):
        shell = fresh("book baker")
        for line in YARD_LINES:
            self.assert_says(shell, (line, "no yard"))
        self.assert_says(shell, ("yard 0 1 1", "error BadStanding"), ("yard ", "error BadText"), ("show", "no yard"), ("yard 1 1 1", "version 0"))
        for line in YARD_LINES:
            self.assertNotIn(shell.say(line), ("no yard", "what"))

    def test_yards_by_numbers(self):
        for numbers, answer in (
                ("1 1 0", "version 0"), ("4 4 40", "version 0"), ("0 1 1", "error BadStanding"), ("5 1 1", "error BadStanding"),
                ("1 0 1", "error BadStanding"), ("1 5 1", "error BadStanding"), ("1 1 41", "error Unfit"), ("5 5 41", "error Unfit"),
                ("999 999 999", "error Unfit"), ("999 999 1", "error BadStanding"), ("1 1", "error BadText"), ("1 1 1 1", "error BadText"),
                ("01 1 1", "error BadText"), ("1 1 1000", "error BadText"), (" 1 1 1", "error BadText"), ("1 1 1 ", "error BadText"),
                ("1  1 1", "error BadText"), ("1 1 -1", "error BadText"), ("1 1 none", "error BadText")):
            self.assert_says(fresh(), (f"yard {numbers}", answer))
        shell = fresh("yard 2 3 1")
        self.assert_says(shell, ("show", "cell free\nhand unlooked - - -\nhand unlooked - - -"), ("reached", "none"), ("freed", "none"))

    def test_yards_by_texts(self):
        for standing in (start(PAIR, ((0, None), (2,)), 3), start((), ((None,),), 0), FULL_HANDS, WIDE, start((), ((None,) * 4,) * 4, 40)):
            shell = fresh()
            self.assert_says(shell, ("yard " + text_of(standing), "version 0"), ("show", text_of(standing)))
        for text, answer in (
                ("cell white\nhand looked 0", "error Unfit"), ("cell black\nhand unlooked 0", "error Unfit"),
                ("cell grey0 -\nhand unlooked 0", "error Unfit"), ("cell free\ncell white\nhand unlooked 1", "error Unfit"),
                ("cell white\ncell free\ncell white\nhand unlooked 0", "error Unfit"), ("hand unlooked -\nhand looked -", "error Unfit"),
                ("cell white", "error BadStanding"), ("cell free\nhand unlooked 0", "error BadStanding"), ("hand unlooked", "error BadStanding"),
                ("cell white 1\nhand unlooked -", "error BadStanding"), ("cell white\nhand unlooked 0\n", "error BadText"),
                (" cell white\nhand unlooked 0", "error BadText"), ("foo", "error BadText"), ("", "error BadText")):
            shell = fresh("yard 1 1 1")
            ahead = look_over(shell)
            self.assert_says(shell, ("yard " + text, answer))
            self.assertEqual(look_over(shell), ahead)

    def test_the_yard_keeps_its_book(self):
        """Its book is the one that the shell had when the yard came."""
        shell = fresh("yard cell white 1\ncell white\nhand unlooked 0 -")
        lines = ("look 0", "read 0 0 0 1", "write 0 0 0 none", "mark 9")
        for line in ("book dijkstra", *lines):
            shell.say(line)
        self.assert_says(shell, ("lost", "1"), ("sweep", "error Lost"), ("yard cell white 1\ncell white\nhand unlooked 0 -", "version 0"))
        for line in ("book plain", *lines):
            shell.say(line)
        self.assert_says(shell, ("lost", "none"), ("sweep", "version 5"), ("freed", "none"))

    def test_edits_and_undo(self):
        shell = fresh("book yuasa", "yard 1 2 3")
        self.assert_says(
            shell, ("make 0 0 1", "version 1"), ("make 0 1 0", "version 2"), ("write 0 0 0 1", "version 3"), ("drop 0 1", "version 4"),
            ("due", "look 0"), ("mark 1", "version 5"), ("due", "scan 0"), ("read 0 0 0 1", "version 6"), ("write 0 0 0 none", "version 7"),
            ("mark 9", "version 8"), ("due", "sweep"), ("lost", "none"), ("floating", "none"), ("sweep", "version 9"), ("cycles", "1"),
            ("freed", "none"), ("drop 0 1", "version 10"), ("cycle", "version 11"), ("freed", "1"), ("cycles", "2"), ("reached", "0"),
            ("copy 0 0 1", "version 12"), ("look 0", "version 13"), ("scan 0", "version 14"), ("scan 0", "error Refused"),
            ("undo", "version 13"), ("undo", "version 12"), ("undo", "version 11"), ("undo", "version 10"), ("freed", "none"), ("cycles", "1"),
            ("version", "10"))
        for version in range(9, -1, -1):
            self.assert_says(shell, ("undo", f"version {version}"))
        self.assert_says(shell, ("undo", "error NothingToUndo"), ("version", "0"))

    def test_two_hundred_edits(self):
        shell = fresh("yard 1 1 1", *["cycle"] * 200)
        self.assert_says(
            shell, ("version", "200"), ("cycle", "error TooManyEdits"), ("look 0", "error TooManyEdits"), ("look 1", "error Refused"),
            ("mark 0", "error Unfit"), ("sweep", "error Unfit"), ("undo", "version 199"), ("drop 0 0", "version 200"))

    def test_looks_change_nothing(self):
        chance = random.Random(173)
        shell, model = Shell(), ModelShell()
        for _ in range(200):
            line = drawn_line(chance, None if model.yard is None else model.yard.standing)
            self.assertEqual(shell.say(line), model.say(line))
            told = look_over(shell)
            self.assertEqual(look_over(shell), told)

    def test_how_it_is_called(self):
        self.assertEqual(list(inspect.signature(Shell).parameters), [])
        self.assertEqual(list(inspect.signature(Shell.say).parameters), ["self", "line"])
        self.assertIn("say", vars(Shell))
        self.assertEqual(Shell().say(line="entries"), "none")

    def test_quickly(self):
        text = "yard " + text_of(WIDE)
        with Quickly(8):
            for _ in range(20):
                shell = fresh("book hybrid pieces", text)
                for _ in range(20):
                    for line in ("mark 3", "show", "reached", "due", "cycle", "freed"):
                        shell.say(line)


if __name__ == "__main__":
    unittest.main()
