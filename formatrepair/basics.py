"""Basic values: integers, letters, texts, names, and the words of a line."""

from formatrepair.errors import InvalidInteger, InvalidLine, InvalidText

LONGEST_NAME = 8
MOST_DIGITS = 30


def is_integer(value):
    """Return whether the value is an integer other than True and False."""
    return isinstance(value, int) and not isinstance(value, bool)


def is_letter(value):
    """Return whether the value is a string of one character from a to z."""
    return isinstance(value, str) and len(value) == 1 and "a" <= value <= "z"


def is_text(value):
    """Return whether the value is a string of letters, or the empty string."""
    return isinstance(value, str) and all(["a" <= sign <= "z" for sign in value])


def is_name(value):
    """Return whether the value is a string of one to eight letters."""
    return isinstance(value, str) and 1 <= len(value) <= LONGEST_NAME and is_text(value)


def is_list(value):
    """Return whether the value may stand where a list is asked for."""
    return isinstance(value, (list, tuple))


def is_index(value, size):
    """Return whether the value is an integer from 0 to size - 1."""
    return is_integer(value) and 0 <= value < size


def is_grid(value, height, width):
    """Return whether the value is a list of so many rows, each a list of so many items."""
    if not is_list(value) or len(value) != height:
        return False
    return all([is_list(row) and len(row) == width for row in value])


def require_integer(value, least, most):
    """Raise InvalidInteger if the value is not an integer within the bounds; None is no bound."""
    if not is_integer(value) or value < least or (most is not None and value > most):
        raise InvalidInteger(value)


def require_text(value):
    """Raise InvalidText if the value is not a text."""
    if not is_text(value):
        raise InvalidText(value)


def parse_count(text, *, minimum=0, maximum=None):
    """Return the integer that the text represents within the limits, or None."""
    for limit in (minimum, maximum):
        if limit is not None and not is_integer(limit):
            raise InvalidInteger(limit)
    if not isinstance(text, str) or not is_number(text):
        return None
    count = int(text)
    if minimum is not None and count < minimum:
        return None
    if maximum is not None and count > maximum:
        return None
    return count


def is_number(text):
    """Return whether the string represents an integer of at most thirty digits."""
    digits = text.removeprefix("-")
    if not 1 <= len(digits) <= MOST_DIGITS or not all(["0" <= sign <= "9" for sign in digits]):
        return False
    return digits[0] != "0" or text == "0"


def split_words(line):
    """Return the list of the words of a line, between which single spaces stand."""
    if not isinstance(line, str) or "\n" in line:
        raise InvalidLine(line)
    if line == "":
        return []
    words = line.split(" ")
    if "" in words:
        raise InvalidLine(line)
    return words
