"""Listing and counting the texts of a format, shorter ones first, those of a length in alphabetical order.

Layers tell how the texts go on: the item [k][state] is the number of the
texts of k letters that lead from the state to acceptance.
"""

from formatrepair.basics import require_integer
from formatrepair.errors import MissingText, NotIncluded, TooMany
from formatrepair.formats import require_format
from formatrepair.tables import shortest_way

LONGEST = 400
MOST_TEXTS = 500


def shortest_text(text_format):
    """Return the first text of a format, or None."""
    require_format(text_format)
    if text_format.is_empty():
        return None
    return shortest_way((text_format.rows(), text_format.accepting()), 0)


def missing_text(one, other):
    """Return the first text of the one format that is not in the other, or None."""
    require_format(one)
    require_format(other)
    return shortest_text(one - other)


def count_texts(text_format, length):
    """Return the number of the texts of a length."""
    require_format(text_format)
    require_integer(length, 0, LONGEST)
    return first_item(layers_to(text_format, length)[length])


def texts(text_format, longest):
    """Yield the texts of at most the length longest, one by one."""
    require_format(text_format)
    require_integer(longest, 0, LONGEST)
    rows = text_format.rows()
    layers = layers_to(text_format, 0)
    for _ in range(longest + 1):
        yield from texts_of_last(rows, layers)
        layers.append(layer_before(rows, layers[-1]))


def first_texts(text_format, count):
    """Return the list of the first texts, so many or all."""
    require_format(text_format)
    require_integer(count, 0, MOST_TEXTS)
    rows = text_format.rows()
    layers = layers_to(text_format, 0)
    found = []
    # Behind a layer without texts there are no longer texts.
    while len(found) < count and any(layers[-1]):
        for text in texts_of_last(rows, layers):
            found.append(text)
            if len(found) == count:
                break
        layers.append(layer_before(rows, layers[-1]))
    return found


def text_at(text_format, number):
    """Return the text with a number."""
    require_format(text_format)
    require_integer(number, 0, None)
    rows = text_format.rows()
    layers = layers_to(text_format, 0)
    left = number
    while left >= first_item(layers[-1]):
        if not any(layers[-1]):
            raise MissingText(number)
        if len(layers) > LONGEST and not text_format.is_finite():
            raise TooMany(LONGEST + 1)
        left -= first_item(layers[-1])
        layers.append(layer_before(rows, layers[-1]))
    if len(layers) > LONGEST + 1:
        raise TooMany(LONGEST + 1)
    return text_of_last(rows, layers, left)


def number_of(text_format, text):
    """Return the number of a text of the format."""
    require_format(text_format)
    if not text_format.contains(text):
        raise NotIncluded(text)
    rows = text_format.rows()
    layers = layers_to(text_format, len(text))
    number = sum([layer[0] for layer in layers[:-1]])
    state = 0
    for place, letter in enumerate(text):
        row = rows[state]
        layer = layers[len(text) - place - 1]
        number += sum([layer[row[other]] for other in row if other < letter])
        state = row[letter]
    return number


def layers_to(text_format, length):
    """Return the layers for 0 letters to the length."""
    rows = text_format.rows()
    accepting = set(text_format.accepting())
    layers = [[1 if state in accepting else 0 for state in range(len(rows))]]
    for _ in range(length):
        layers.append(layer_before(rows, layers[-1]))
    return layers


def layer_before(rows, layer):
    """Return the layer for one letter more."""
    return [sum([layer[row[letter]] for letter in row]) for row in rows]


def first_item(layer):
    """Return the number of the texts from state 0; a format without states has none."""
    return layer[0] if layer else 0


def texts_of_last(rows, layers):
    """Yield the texts of the length of the last layer in alphabetical order."""
    length = len(layers) - 1
    # A way that waits is its length, its last letter and its state; the
    # letters before it are those of the path.
    waiting = [(0, "", 0)] if first_item(layers[-1]) > 0 else []
    path = []
    while waiting:
        place, last, state = waiting.pop()
        del path[place:]
        path.append(last)
        if place == length:
            yield "".join(path)
        else:
            row = rows[state]
            layer = layers[length - place - 1]
            for letter in reversed(list(row)):
                if layer[row[letter]] > 0:
                    waiting.append((place + 1, letter, row[letter]))


def text_of_last(rows, layers, number):
    """Return the text with a number among those of the length of the last layer."""
    letters = []
    state = 0
    for layer in layers[:-1][::-1]:
        letter, number = letter_at(rows[state], layer, number)
        letters.append(letter)
        state = rows[state][letter]
    return "".join(letters)


def letter_at(row, layer, number):
    """Return the first letter of the text with a number, and its number among those with this letter."""
    for letter in row:
        if number < layer[row[letter]]:
            return letter, number
        number -= layer[row[letter]]
    return None
