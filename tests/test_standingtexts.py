"""[L1], and of [L3] what is said of texts."""

import random
import unittest

from guardbooks.errors import BadStanding, BadText
from guardbooks.standings import standing_error, start
from guardbooks.standingtexts import read_standing, standing_text
from tests.standingpool import FULL_HANDS, NAMED, WIDE, ended, random_standings, small_standings
from tests.support import GuardCase, ODD_VALUES, Quickly, STANDING

STANDING_TEXT = "cell grey1 1 -\ncell white -\ncell black\ncell free\nhand looked 0 1\nhand unlooked -"

# What looks like a line, and is none.
NEAR_LINES = (
    "", " ", "cell", "cell ", "cell  white", "cell white ", " cell white", "cell grey", "cell grey3", "cell grey00", "cell grey-1",
    "cell grey 1", "cell 1", "cell White", "cell white 01", "cell white 00", "cell white 100", "cell white -1", "cell white +1",
    "cell white --", "cell white none", "cell white None", "cell white 1  2", "cell white 1,2", "cell looked", "cell unlooked 1",
    "Cell white", "cells white", "cell white\t1", "cell white 1\r", "hand", "hand ", "hand white", "hand Looked 0", "hand looked 01",
    "hand looked  0", "hand looked 0 ", " hand looked 0", "hand looked 100", "hand looked none", "hand unlooked 1 -1", "hand 0",
    "hand true 0", "free", "white", "looked -", "book plain", "none", "cell white 1_0", "9" * 20000, "cell white \u0661")


def standings():
    return [*NAMED, *random_standings(), *list(small_standings())[::60], *[ended(one) for one in random_standings()[::5]]]


def text_of(standing):
    """The text of a standing, put together piece by piece."""
    lines = []
    for fields, mark in zip(standing[0], standing[1]):
        lines.append(["cell", f"grey{mark}" if type(mark) is int else mark, *fields])
    for rooms, looked in zip(standing[2], standing[3]):
        lines.append(["hand", "looked" if looked else "unlooked", *rooms])
    return "\n".join(" ".join("-" if part is None else f"{part}" for part in line) for line in lines)


class StandingTextTest(GuardCase):

    def test_by_hand(self):
        self.assert_told(STANDING_TEXT, standing_text, standing=STANDING)
        self.assert_told("hand looked -", standing_text, standing=((), (), ((None,),), (True,)))
        self.assert_told(
            "cell white\ncell free\ncell free\nhand unlooked 0 - 0 -\nhand unlooked -",
            standing_text, standing=start(((),), ((0, None, 0, None), (None,)), 2))
        self.assert_told(
            "cell grey2 0 0 0\ncell grey0 -\nhand looked 1", standing_text,
            standing=(((0, 0, 0), (None,)), (2, 0), ((1,),), (True,)))

    def test_of_all_kinds(self):
        for standing in standings():
            self.assert_told(text_of(standing), standing_text, standing=standing)
            self.assert_told(standing, read_standing, value=text_of(standing))

    def test_forty_cells_and_four_hands_of_four_rooms(self):
        for standing in (FULL_HANDS, WIDE, start((), ((None,) * 4,) * 4, 40)):
            text = self.value_of(standing_text, standing=standing)
            self.assertEqual(text.count("\n"), 43)
            self.assert_told(standing, read_standing, value=text)

    def test_unlike_standings_have_unlike_texts(self):
        found = {}
        for standing in standings():
            text = standing_text(standing)
            self.assertEqual(found.setdefault(text, standing), standing)
        self.assertGreater(len(found), 100)

    def test_quickly(self):
        with Quickly(5):
            for _ in range(300):
                read_standing(standing_text(WIDE))


class ReadStandingTest(GuardCase):

    def test_odd_values(self):
        for value in ODD_VALUES:
            self.assert_raised(BadText, {"place": 0}, read_standing, value=value)
        for standing in standings()[:10]:
            self.assert_raised(BadText, {"place": 0}, read_standing, value=standing)

    def test_wrong_lines(self):
        for line in NEAR_LINES:
            for ahead in (0, 1, 3):
                text = "cell white\n" * ahead + line + "\nhand looked -\nfoo"
                self.assert_raised(BadText, {"place": ahead}, read_standing, value=text)
            self.assert_raised(BadText, {"place": 1}, read_standing, value="hand looked -\n" + line)

    def test_line_feeds_too_many(self):
        for text, place in (
                ("\n" + STANDING_TEXT, 0), (STANDING_TEXT + "\n", 6), (STANDING_TEXT.replace("\nhand", "\n\nhand", 1), 4),
                ("hand looked -\n", 1), ("\n", 0), ("hand looked -\n\n", 1), ("cell white\n\n", 1)):
            self.assert_raised(BadText, {"place": place}, read_standing, value=text)

    def test_cells_behind_hands(self):
        self.assert_raised(BadText, {"place": 1}, read_standing, value="hand looked -\ncell white")
        self.assert_raised(BadText, {"place": 2}, read_standing, value="cell white\nhand looked -\ncell white\nhand looked -\nfoo")
        # Whichever line is wrong first.
        self.assert_raised(BadText, {"place": 1}, read_standing, value="hand looked -\ncell green")
        self.assert_raised(BadText, {"place": 1}, read_standing, value="hand looked -\nfoo\ncell white")
        self.assert_raised(BadText, {"place": 1}, read_standing, value="cell white\nfoo\nhand looked -\ncell white")

    def test_lines_that_tell_no_standing(self):
        for text, error in (
                ("cell white 1\nhand looked", ("heap", ("field", 0, 0))), ("cell white 99\nhand looked -", ("heap", ("field", 0, 0))),
                ("cell white - - - -\nhand looked -", ("heap", ("cell", 0))), ("cell grey0\nhand looked -", ("mark", 0)),
                ("cell grey1 -\nhand looked 0", ("mark", 0)), ("cell white\ncell grey2 - -\nhand looked -", ("mark", 1)),
                ("cell white", "hands"), ("\n".join(["cell white"] * 41), ("heap", "form")),
                ("\n".join(["hand looked -"] * 5), "hands"), ("hand looked", ("hand", 0)),
                ("hand looked -\nhand looked - - - - -", ("hand", 1)), ("hand looked 0", ("room", 0, 0)),
                ("cell white\nhand looked 0 1", ("room", 0, 1)), ("cell free -\nhand looked -", ("free", 0)),
                ("cell free\nhand looked 0", ("free", 0)), ("cell white 1\ncell free\nhand looked -", ("free", 1)),
                ("\n".join(["cell white"] * 3000), ("heap", "form"))):
            self.assert_raised(BadStanding, {"error": error}, read_standing, value=text)

    def test_the_text_is_looked_at_ahead_of_the_standing(self):
        self.assert_raised(BadText, {"place": 1}, read_standing, value="cell white 99\nfoo")
        self.assert_raised(BadText, {"place": 41}, read_standing, value="cell white\n" * 41)

    def test_changed_texts(self):
        """What is read at all has the text that was read; all else is told wrong."""
        chance = random.Random(161)
        read = 0
        for standing in standings()[::2]:
            text = text_of(standing)
            for _ in range(6):
                at = chance.randrange(len(text))
                changed = text[:at] + chance.choice(("", " ", "\n", "0", "1", "9", "-", "e", text[at] * 2)) + text[at + 1:]
                try:
                    told = read_standing(changed)
                except (BadText, BadStanding):
                    continue
                read += 1
                self.assertIsNone(standing_error(told))
                self.assertEqual(text_of(told), changed)
        self.assertGreater(read, 50)


if __name__ == "__main__":
    unittest.main()
