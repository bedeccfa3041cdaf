"""Texts of deeds, whether these can be done or not."""

from guardbooks.bounds import MAX_DEEDS
from guardbooks.deeds import NUMBERS
from guardbooks.errors import BadText
from guardbooks.kinds import number_in

NOTHING = "none"


def deed_text(deed):
    """Returns the text of deed: its word and its numbers."""
    return " ".join([deed[0]] + [NOTHING if number is None else str(number) for number in deed[1:]])


def deeds_text(deeds):
    """Returns the text of deeds: a line for each, or NOTHING."""
    if not deeds:
        return NOTHING
    return "\n".join([deed_text(deed) for deed in deeds])


def read_deed(value):
    """Returns the deed of which value, any value, is the text."""
    deed = deed_in(value) if isinstance(value, str) else None
    if deed is None:
        raise BadText(0)
    return deed


def read_deeds(value):
    """Returns the tuple of deeds of which value, any value, is the text."""
    if not isinstance(value, str):
        raise BadText(0)
    if value == NOTHING:
        return ()
    deeds = [deed_in(line) for line in value.split("\n")]
    for place, deed in enumerate(deeds):
        if deed is None:
            raise BadText(place)
    if len(deeds) > MAX_DEEDS:
        raise BadText(MAX_DEEDS)
    return tuple(deeds)


def deed_in(line):
    """Returns the deed of which line is the text, None if it is that of none."""
    return told_by_line(line, dict(NUMBERS), 2)


def told_by_line(line, numbers, figures):
    """Returns the tuple of a word and of numbers of which line is the text, None if it is that of none.

    numbers gives for each word how many numbers stand behind it, figures how long they are at the most.
    """
    words = line.split(" ")
    if len(words) - 1 != numbers.get(words[0]):
        return None
    told = [words[0]]
    for place in range(1, len(words)):
        number = number_in(words[place], figures)
        if number is None and not (words[0] == "write" and place == 4 and words[place] == NOTHING):
            return None
        told.append(number)
    return tuple(told)
