"""Texts of deeds, whether these can be done or not."""

from guardbooks.bounds import MAX_DEEDS
from guardbooks.deeds import NUMBERS
from guardbooks.errors import BadText

NOTHING = "none"


def deed_text(deed):
    """Returns the text of deed: its word and its numbers."""
    return " ".join([deed[0]] + [NOTHING if number is None else str(number) for number in deed[1:]])


def deeds_text(deeds):
    """Returns the text of deeds: a line for each, or NOTHING."""
    if not deeds:
        return NOTHING
    return "\n".join([deed_text(deed) for deed in deeds])


def read_deed(value):
    """Returns the deed of which value, any value, is the text."""
    deed = _deed_of(value) if isinstance(value, str) else None
    if deed is None:
        raise BadText(0)
    return deed


def read_deeds(value):
    """Returns the tuple of deeds of which value, any value, is the text."""
    if not isinstance(value, str):
        raise BadText(0)
    if value == NOTHING:
        return ()
    deeds = [_deed_of(line) for line in value.split("\n")]
    for place, deed in enumerate(deeds):
        if deed is None:
            raise BadText(place)
    if len(deeds) > MAX_DEEDS:
        raise BadText(MAX_DEEDS)
    return tuple(deeds)


def _deed_of(line):
    """Returns the deed of which line is the text, None if it is that of none."""
    words = line.split(" ")
    if len(words) - 1 != NUMBERS.get(words[0]):
        return None
    deed = [words[0]]
    for place in range(1, len(words)):
        if words[0] == "write" and place == 4 and words[place] == NOTHING:
            deed.append(None)
        elif _is_number(words[place]):
            deed.append(int(words[place]))
        else:
            return None
    return tuple(deed)


def _is_number(word):
    """Tells whether word is a number from 0 to 99 as it is written here."""
    return word.isdecimal() and len(word) <= 2 and str(int(word)) == word
