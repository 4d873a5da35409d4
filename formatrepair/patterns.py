"""Patterns: lists of letters and of repetitions, which stand for longer and longer texts."""

from formatrepair.basics import is_index, is_letter, is_list, require_integer
from formatrepair.errors import InvalidInteger, InvalidPattern, NotStable, TooMany
from formatrepair.formats import require_format
from formatrepair.matrices import cost_matrix, grow, is_stable, shape_of, shape_product
from formatrepair.prices import require_format_over, require_known, require_prices

REPEAT = "repeat"
MOST_NESTED = 100
MOST_TIMES = 1000
LONGEST_TEXT = 4000


def is_pattern(value):
    """Return whether the value is a pattern."""
    return is_pattern_within(value, MOST_NESTED)


def is_pattern_within(value, room):
    """Return whether the value is a pattern with at most so many repetitions nested in it."""
    if not is_list(value) or len(value) == 0:
        return False
    for item in value:
        if not is_letter(item):
            if room == 0 or not is_repetition(item) or not is_pattern_within(item[1], room - 1):
                return False
    return True


def is_repetition(value):
    """Return whether the value is a tuple for a repetition, whatever is repeated."""
    return isinstance(value, tuple) and len(value) == 2 and value[0] == REPEAT


def require_pattern(value):
    """Raise InvalidPattern if the value is not a pattern."""
    if not is_pattern(value):
        raise InvalidPattern(value)


def pattern_length(pattern, times):
    """Return the length of the text of a pattern."""
    require_pattern(pattern)
    require_integer(times, 1, MOST_TIMES)
    return length_of(pattern, times)


def length_of(pattern, times):
    """Return the length of the text of what is known to be a pattern."""
    length = 0
    for item in pattern:
        if is_repetition(item):
            length += times * length_of(item[1], times)
        else:
            length += 1
    return length


def pattern_text(pattern, times):
    """Return the text of a pattern, in which each repetition is joined so many times."""
    length = pattern_length(pattern, times)
    if length > LONGEST_TEXT:
        raise TooMany(length)
    return text_of(pattern, times)


def text_of(pattern, times):
    """Return the text, of any length, of what is known to be a pattern."""
    parts = []
    for item in pattern:
        if is_repetition(item):
            parts.append(text_of(item[1], times) * times)
        else:
            parts.append(item)
    return "".join(parts)


def pattern_end(text_format, pattern, *, start=0):
    """Return the state that the texts of a pattern lead to from the start, or None."""
    require_format(text_format)
    require_pattern(pattern)
    if not is_index(start, text_format.size):
        raise InvalidInteger(start)
    return end_of(text_format.rows(), pattern, start)


def end_of(rows, pattern, start):
    """Return the state of a table that the texts of a pattern lead to, or None."""
    state = start
    for item in pattern:
        if is_repetition(item):
            if end_of(rows, item[1], state) != state:
                return None
        elif item in rows[state]:
            state = rows[state][item]
        else:
            return None
    return state


def letters_in(pattern):
    """Return the letters of a pattern from left to right, as often as they stand in it."""
    found = []
    waiting = list(pattern)[::-1]
    while waiting:
        item = waiting.pop()
        if is_repetition(item):
            waiting.extend(list(item[1])[::-1])
        else:
            found.append(item)
    return found


def pattern_shape(prices, text_format, pattern):
    """Return the product of the shapes of the items of a pattern."""
    require_prices(prices)
    require_format_over(prices, text_format)
    require_pattern(pattern)
    letters = letters_in(pattern)
    require_known(prices, letters)
    shapes = {letter: shape_of(cost_matrix(prices, text_format, letter)) for letter in sorted(set(letters))}
    return shape_within(pattern, shapes)


def shape_within(pattern, shapes):
    """Return the shape of a pattern for the shapes of its letters."""
    product = None
    for item in pattern:
        if is_repetition(item):
            shape = grown_within(item[1], shapes)
        else:
            shape = shapes[item]
        product = shape if product is None else shape_product(product, shape)
    return [list(row) for row in product]


def grown_within(pattern, shapes):
    """Return the shape of the endless repetition of a pattern."""
    shape = shape_within(pattern, shapes)
    if not is_stable(shape):
        raise NotStable(pattern)
    return grow(shape)


def copied_pattern(pattern):
    """Return a pattern that equals another one, with new lists."""
    return [(REPEAT, copied_pattern(item[1])) if is_repetition(item) else item for item in pattern]
