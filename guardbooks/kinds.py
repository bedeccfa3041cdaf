"""What kinds values are of, asked of any value, numbers as they are written, and tuples with another item."""


def is_integer(value):
    """Tells whether value is an int that is not a bool."""
    return isinstance(value, int) and not isinstance(value, bool)


def is_number_below(value, many):
    """Tells whether value is an integer from 0 to many - 1."""
    return is_integer(value) and 0 <= value < many


def is_tuple_of(value, least, most):
    """Tells whether value is a tuple of least to most items."""
    return isinstance(value, tuple) and least <= len(value) <= most


def first_misformed(rows, least, most):
    """Returns the place of the first row that is no tuple of least to most items, None if there is none."""
    for place, row in enumerate(rows):
        if not is_tuple_of(row, least, most):
            return place
    return None


def first_misnamed(rows, many):
    """Returns the pair (row, item) of the first item that is neither None nor a number below many, or None."""
    for place, row in enumerate(rows):
        for at, item in enumerate(row):
            if item is not None and not is_number_below(item, many):
                return (place, at)
    return None


def number_in(text, figures):
    """Returns the number of so many figures at the most that text is, without a nought ahead of another, or None."""
    if not text.isdecimal() or len(text) > figures:
        return None
    number = int(text)
    return number if str(number) == text else None


def replaced(row, places, item):
    """Returns the tuple row with another item where places, one within another, lead to."""
    if not places:
        return item
    place = places[0]
    return row[:place] + (replaced(row[place], places[1:], item),) + row[place + 1:]
