"""[K4], and of [K5] what is said of logs."""

import random
import unittest

from guardbooks.errors import BadBook, BadHeap, BadLog, BadStanding, BadText, Unfit
from guardbooks.knownbooks import dijkstra, hybrid, yuasa
from guardbooks.losing import losing
from guardbooks.yardlogs import log_text, read_log, yard_behind
from guardbooks.yards import Yard
from tests.bookpool import bare
from tests.safetymodel import near_books
from tests.support import GuardCase, ODD_VALUES, PAIR, Quickly, told
from tests.test_yards import drawn_yards
from tests.yardmodel import ARGUMENTS, told_of

WHOLE = bare(False, False)
EDITS = (
    ("make", 0, 0, 1), ("read", 0, 1, 2, 3), ("write", 3, 0, 2, None), ("write", 0, 3, 0, 1), ("drop", 0, 3), ("copy", 0, 0, 3),
    ("look", 3), ("scan", 39), ("mark", 1), ("mark", 10), ("mark", 400), ("sweep",), ("cycle",))
TEXT = (
    "make 0 0 1\nread 0 1 2 3\nwrite 3 0 2 none\nwrite 0 3 0 1\ndrop 0 3\ncopy 0 0 3\nlook 3\nscan 39\nmark 1\nmark 10\n"
    "mark 400\nsweep\ncycle\n")

# What looks like a line of a log, and is none.
NEAR_LINES = (
    "", " ", "mark", "mark ", "mark 01", "mark 00", "mark  1", " mark 1", "mark 1 ", "mark 1 1", "mark 1000", "mark -1", "mark +1",
    "mark 1.0", "mark none", "mark None", "mark 1_0", "mark 0x1", "Mark 1", "MARK 1", "sweep ", " sweep", "sweep 0", "cycle none",
    "cycles", "undo", "twin", "look", "look 0 0", "look none", "scan 0000", "make 0 0", "make 0 0 none", "read 0 0 0 none",
    "write 0 0 none 0", "write none 0 0 0", "write 0 0 0 None", "write 0 0 0 -", "write 0 0 0", "write 0 0 0 none none", "drop 0",
    "copy 0 0 0 0", "make\t0 0 1", "make,0,0,1", "('cycle',)", "sweep\r", "none", "mark 1;", "mark \u0661", "9" * 20000)


class TextsTest(GuardCase):

    def test_every_edit(self):
        self.assert_told(TEXT, log_text, log=EDITS)
        self.assert_told(EDITS, read_log, value=TEXT)
        for place, edit in enumerate(EDITS):
            line = TEXT.split("\n")[place]
            self.assert_told(line + "\n", log_text, log=(edit,))
            self.assert_told((edit,), read_log, value=line)
            self.assert_told((edit, edit), read_log, value=f"{line}\n{line}\n")

    def test_no_edit_and_many(self):
        self.assert_told("", log_text, log=())
        self.assert_told((), read_log, value="")
        self.assert_told("cycle\n" * 200, log_text, log=(("cycle",),) * 200)
        for many in (199, 200, 201, 3000):
            self.assert_told((("mark", 7),) * many, read_log, value="mark 7\n" * many)
        self.assert_told((("cycle",), ("sweep",)), read_log, value="cycle\nsweep")

    def test_numbers_of_one_to_three_figures(self):
        for number in (0, 1, 9, 10, 99, 100, 999):
            self.assert_told((("look", number), ("mark", number)), read_log, value=f"look {number}\nmark {number}")
            self.assert_told((("write", number, number, number, None),), read_log, value=f"write {number} {number} {number} none")
        for number in (1000, 10000, -1):
            self.assert_raised(BadText, {"place": 0}, read_log, value=f"look {number}")

    def test_wrong_lines(self):
        for line in NEAR_LINES:
            for ahead in (0, 1, 3):
                text = "cycle\n" * ahead + line + "\n" + "sweep\nfoo"
                self.assert_raised(BadText, {"place": ahead}, read_log, value=text)
            if line:
                self.assert_raised(BadText, {"place": 1}, read_log, value="cycle\n" + line)
        self.assert_raised(BadText, {"place": 0}, read_log, value="\n")
        self.assert_raised(BadText, {"place": 1}, read_log, value="cycle\n\n")
        self.assert_raised(BadText, {"place": 1}, read_log, value="cycle\n\ncycle")
        self.assert_raised(BadText, {"place": 0}, read_log, value="\ncycle")

    def test_odd_values(self):
        for value in [*ODD_VALUES, EDITS, list(EDITS), ("cycle",)]:
            if value == "":
                self.assert_told((), read_log, value=value)
            else:
                self.assert_raised(BadText, {"place": 0}, read_log, value=value)

    def test_there_and_back(self):
        found = {}
        for yard, _, _ in drawn_yards(151, 30):
            text = self.value_of(log_text, log=yard.log)
            self.assertEqual(text.count("\n"), yard.version)
            self.assert_told(yard.log, read_log, value=text)
            self.assertEqual(found.setdefault(text, yard.log), yard.log)
        chance = random.Random(152)
        for _ in range(100):
            edits = tuple(
                (word, *[chance.choice((0, 7, 10, 39, 400)) for _ in range(ARGUMENTS[word])])
                for word in chance.choices(sorted(ARGUMENTS), k=5))
            self.assertEqual(read_log(log_text(edits)), edits)
            self.assertEqual(found.setdefault(log_text(edits), edits), edits)

    def test_quickly(self):
        with Quickly(5):
            for _ in range(200):
                read_log(log_text(EDITS * 15))


class YardBehindTest(GuardCase):

    def outcome_of_yard(self, book, heap, rooms, many, value):
        """What yard_behind comes to, by place, by names, and again: the same each time."""
        named = {"book": book, "heap": heap, "rooms": rooms, "many": many, "value": value}
        before = told(named)
        outcomes = []
        for call in (lambda: yard_behind(*named.values()), lambda: yard_behind(**named), lambda: yard_behind(*named.values())):
            try:
                outcomes.append(told_of(call()))
            except ValueError as error:
                outcomes.append((type(error), vars(error)))
        self.assertEqual(told(named), before)
        self.assertEqual(len({repr(one) for one in outcomes}), 1)
        return outcomes[0]

    def assert_bad(self, error, fields, book, heap, rooms, many, value):
        self.assertEqual(repr(self.outcome_of_yard(book, heap, rooms, many, value)), repr((error, fields)))

    def test_drawn_ones(self):
        for yard, model, began in drawn_yards(153, 40):
            behind = yard_behind(yard.book, *began, yard.log)
            self.assertIsInstance(behind, Yard)
            self.assertEqual(behind, yard)
            self.assertEqual(repr(told_of(behind)), repr(model.told()))
            self.assertEqual(yard_behind(yard.book, *began, read_log(log_text(yard.log))), yard)
            while behind.version:
                self.assertEqual((behind.undo(), behind.standing, behind.freed), (yard.undo(), yard.standing, yard.freed))

    def test_every_edit(self):
        edits = (
            ("make", 0, 1, 2), ("write", 0, 0, 1, 1), ("read", 0, 0, 1, 1), ("copy", 0, 0, 1), ("drop", 0, 1), ("look", 0),
            ("scan", 0), ("mark", 5), ("write", 0, 0, 0, None), ("sweep",), ("cycle",))
        yard = Yard(dijkstra(True), PAIR, ((0, None),), 2)
        for many in range(len(edits) + 1):
            self.assertEqual(repr(self.outcome_of_yard(dijkstra(True), PAIR, ((0, None),), 2, edits[:many])), repr(told_of(yard)))
            if many < len(edits):
                getattr(yard, edits[many][0])(*edits[many][1:])

    def test_what_the_yard_raises_comes_first(self):
        for value in (None, (), (None,), EDITS):
            self.assert_bad(BadBook, {"error": "form"}, None, [], 7, None, value)
            self.assert_bad(BadHeap, {"error": "form"}, WHOLE, [], 7, None, value)
            self.assert_bad(Unfit, {}, WHOLE, (), 7, None, value)
            self.assert_bad(BadStanding, {"error": "hands"}, WHOLE, (), 7, 3, value)

    def test_no_tuple(self):
        for value in ODD_VALUES:
            if type(value) is not tuple:
                self.assert_bad(BadLog, {"place": 0}, WHOLE, (), ((None,),), 3, value)

    def test_items_that_are_no_edits(self):
        for value in [*ODD_VALUES, ("undo",), ("twin",), ("cycle", 0), ("sweep", None), ("mark",), ("mark", 1, 1), ("look",),
                      ["cycle"], "cycle", ("make", 0, 0), ("read", 0, 0, 0), ("write", 0, 0, 0), ("Cycle",), (["cycle"],),
                      (None, 0), ({}, 0), ("edit", ("cycle",)), ("version",), ("_do", ("look", 0)), ("__init__",)]:
            self.assert_bad(BadLog, {"place": 0}, WHOLE, (), ((None,),), 3, (value,))
            self.assert_bad(BadLog, {"place": 2}, WHOLE, (), ((None,),), 3, (("cycle",), ("make", 0, 0, 1), value, None))

    def test_edits_that_raise_errors(self):
        taken = (("look", 0), ("read", 0, 0, 0, 1), ("write", 0, 0, 0, None))
        for value, place in (
                ((("sweep",),), 0), ((("look", 0), ("look", 0)), 1), ((("mark", 0),), 0), ((("mark", 9), ("mark", 1)), 1),
                (taken + (("cycle",),), 3), (taken + (("scan", 0), ("sweep",)), 4), (taken + (("scan", 0), ("drop", 0, 1), ("sweep",)), None),
                ((("drop", 0, None),), 0), ((("drop", 0, True),), 0), ((("mark", "1"),), 0), ((("write", 0, 0, 0, 2),), 0)):
            if place is None:
                self.assertEqual(self.outcome_of_yard(WHOLE, ((1,), ()), ((0, None),), 0, value)[3], len(value))
            else:
                self.assert_bad(BadLog, {"place": place}, WHOLE, ((1,), ()), ((0, None),), 0, value)

    def test_two_hundred_edits_and_one_more(self):
        for many in (199, 200):
            self.assertEqual(self.outcome_of_yard(WHOLE, (), ((None,),), 1, (("cycle",),) * many)[3], many)
        for many in (201, 250):
            self.assert_bad(BadLog, {"place": 200}, WHOLE, (), ((None,),), 1, (("cycle",),) * many)
        self.assert_bad(BadLog, {"place": 100}, WHOLE, (), ((None,),), 1, (("cycle",),) * 100 + (None,) + (("cycle",),) * 200)

    def test_losing_runs_are_logs(self):
        for book in near_books(random.Random(154), 40) + [yuasa(False)]:
            run = losing(book, 2)
            if run is not None:
                yard = yard_behind(book, *run)
                self.assertEqual((yard.due, yard.log), (("sweep",), run[3]))
                self.assert_bad(BadLog, {"place": len(run[3])}, book, *run[:3], run[3] + (("sweep",),))

    def test_yards_are_new_ones(self):
        one, other = [yard_behind(hybrid(False), (), ((None,),), 3, (("make", 0, 0, 1),)) for _ in range(2)]
        one.drop(0, 0)
        self.assertEqual((one.version, other.version), (2, 1))


if __name__ == "__main__":
    unittest.main()
