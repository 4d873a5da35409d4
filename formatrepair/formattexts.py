"""Formats, prices, scripts, patterns and tables of bounds as strings of lines, and back."""

from formatrepair.basics import is_index, is_letter, is_list, parse_count, split_words
from formatrepair.errors import InvalidLine, InvalidList, InvalidRow, InvalidScript, InvalidText
from formatrepair.formats import Format, require_format
from formatrepair.patterns import MOST_NESTED, REPEAT, is_repetition, require_pattern
from formatrepair.prices import HIGHEST_PRICE, Prices, is_alphabet, is_pair, is_symbol, require_prices

LETTERS = "abcdefghijklmnopqrstuvwxyz"
NO_SYMBOL = "-"
NO_NUMBER = "none"
# The first integer of more than thirty digits.
NUMBER_LIMIT = 1000000000000000000000000000000


def symbol_word(symbol):
    """Return the word of a letter or of the empty string."""
    return NO_SYMBOL if symbol == "" else symbol


def number_word(number):
    """Return the word of an integer or of None."""
    return NO_NUMBER if number is None else str(number)


def symbol_of(word):
    """Return the symbol that a word may stand for."""
    return "" if word == NO_SYMBOL else word


def is_number_word(word):
    """Return whether a word stands for an integer of at least 0 or for None."""
    return word == NO_NUMBER or parse_count(word) is not None


def lines_of(text):
    """Return the lines of a string."""
    if not isinstance(text, str):
        raise InvalidText(text)
    return text.split("\n")


def row_words(line):
    """Return the words of a line, and none if it is not a line of words."""
    try:
        return split_words(line)
    except InvalidLine:
        return []


def header_count(lines, kind):
    """Return the number of lines that the header of this kind promises."""
    words = row_words(lines[0])
    if len(words) != 2 or words[0] != kind or parse_count(words[1]) is None:
        raise InvalidRow(0)
    return parse_count(words[1])


def read_rows(lines, many, read):
    """Return the list of what the function reads from the words of each line behind the header.

    The function is passed the words and the list of what was read before,
    and returns None if the line does not have the form. There must be so
    many lines, or any number of them if many is None.
    """
    found = []
    for index, line in enumerate(lines):
        if index > 0:
            item = read(row_words(line), found) if many is None or index <= many else None
            if item is None:
                raise InvalidRow(index)
            found.append(item)
    if many is not None and len(found) < many:
        raise InvalidRow(len(lines))
    return found


def write_format(text_format):
    """Return the string of the smallest table of a format."""
    require_format(text_format)
    rows = text_format.rows()
    accepting = text_format.accepting()
    lines = [f"format {len(rows)}"]
    for state, row in enumerate(rows):
        words = ["accepting" if state in accepting else "other"]
        for letter in row:
            words.extend([letter, str(row[letter])])
        lines.append(" ".join(words))
    return "\n".join(lines)


def read_format(text):
    """Return the format of the table that a string describes."""
    lines = lines_of(text)
    many = header_count(lines, "format")
    found = read_rows(lines, many, lambda words, before: state_row(words, many))
    return Format([row for _, row in found], [state for state, (accepts, _) in enumerate(found) if accepts])


def state_row(words, many):
    """Return whether a state accepts and its row, or None; a next state is less than many."""
    if len(words) % 2 == 0 or words[0] not in ("accepting", "other"):
        return None
    row = {}
    letters = words[1::2]
    for letter, word in zip(letters, words[2::2]):
        state = parse_count(word, maximum=many - 1)
        if not is_letter(letter) or state is None:
            return None
        row[letter] = state
    if sorted(row) != letters:
        return None
    return words[0] == "accepting", row


def write_prices(prices):
    """Return the string of a price table."""
    require_prices(prices)
    symbols = [""] + list(prices.alphabet())
    lines = [f"prices {prices.alphabet()}"]
    for source in symbols:
        for target in symbols:
            price = prices.price(source, target)
            if source != target and price is not None:
                lines.append(f"{symbol_word(source)} {symbol_word(target)} {price}")
    return "\n".join(lines)


def read_prices(text):
    """Return the price table that a string describes."""
    lines = lines_of(text)
    header = row_words(lines[0])
    if len(header) != 2 or header[0] != "prices" or not is_alphabet(header[1]) or sorted(header[1]) != list(header[1]):
        raise InvalidRow(0)
    alphabet = header[1]
    found = read_rows(lines, None, lambda words, before: price_row(words, before, alphabet))
    return Prices(alphabet, {pair: price for pair, price in found})


def price_row(words, before, alphabet):
    """Return a pair of symbols and its price, or None; a pair of the lines before does not come again."""
    if len(words) != 3 or not is_number_word(words[2]):
        return None
    source, target, price = symbol_of(words[0]), symbol_of(words[1]), parse_count(words[2])
    if not is_symbol(source, alphabet) or not is_symbol(target, alphabet) or source == target:
        return None
    if price is not None and price > HIGHEST_PRICE:
        return None
    if (source, target) in [pair for pair, _ in before]:
        return None
    return (source, target), price


def write_script(script):
    """Return the string of a script over any letters."""
    if not is_list(script) or not all([is_pair(pair, LETTERS) for pair in script]):
        raise InvalidScript(script)
    lines = [f"{symbol_word(source)} {symbol_word(target)}" for source, target in script]
    return "\n".join([f"script {len(lines)}"] + lines)


def read_script(text):
    """Return the script that a string describes."""
    lines = lines_of(text)
    return read_rows(lines, header_count(lines, "script"), lambda words, before: pair_row(words))


def pair_row(words):
    """Return a pair of a script, or None."""
    pair = tuple([symbol_of(word) for word in words])
    return pair if is_pair(pair, LETTERS) else None


def write_pattern(pattern):
    """Return the string of a pattern."""
    require_pattern(pattern)
    return "\n".join(["pattern"] + pattern_lines(pattern))


def pattern_lines(pattern):
    """Return the lines of the items of a pattern."""
    lines = []
    for item in pattern:
        if is_repetition(item):
            lines.append("repeat")
            lines.extend(pattern_lines(item[1]))
            lines.append("end")
        else:
            lines.append(f"letter {item}")
    return lines


def read_pattern(text):
    """Return the pattern that a string describes."""
    lines = lines_of(text)
    if row_words(lines[0]) != ["pattern"]:
        raise InvalidRow(0)
    groups = [[]]
    for index, line in enumerate(lines):
        if index > 0 and not read_item(groups, row_words(line)):
            raise InvalidRow(index)
    if len(groups) > 1 or len(groups[0]) == 0:
        raise InvalidRow(len(lines))
    return groups[0]


def read_item(groups, words):
    """Add what a line stands for to the open patterns, the innermost one being the last; return whether it may."""
    if len(words) == 2 and words[0] == "letter" and is_letter(words[1]):
        groups[-1].append(words[1])
        return True
    if words == ["repeat"] and len(groups) <= MOST_NESTED:
        groups.append([])
        return True
    if words == ["end"] and len(groups) > 1 and len(groups[-1]) > 0:
        inner = groups.pop()
        groups[-1].append((REPEAT, inner))
        return True
    return False


def write_bounds(table):
    """Return the string of a table of bounds."""
    if not is_bounds(table):
        raise InvalidList(table)
    lines = [" ".join([str(state)] + [number_word(cost) for cost in costs]) for state, costs in table]
    return "\n".join([f"bounds {len(lines)}"] + lines)


def is_bounds(value):
    """Return whether the value is a list of entries with equally many costs and no great numbers."""
    if not is_list(value) or not all([is_bounds_entry(entry) for entry in value]):
        return False
    return len({len(costs) for _, costs in value}) <= 1


def is_bounds_entry(value):
    """Return whether the value is a tuple of an integer and a list of costs, all of at most thirty digits."""
    if not isinstance(value, tuple) or len(value) != 2 or not is_index(value[0], NUMBER_LIMIT):
        return False
    return is_list(value[1]) and all([cost is None or is_index(cost, NUMBER_LIMIT) for cost in value[1]])


def read_bounds(text):
    """Return the table of bounds that a string describes."""
    lines = lines_of(text)
    return read_rows(lines, header_count(lines, "bounds"), bounds_row)


def bounds_row(words, before):
    """Return an entry with as many costs as those before it, or None."""
    if len(words) == 0 or parse_count(words[0]) is None or not all([is_number_word(word) for word in words]):
        return None
    entry = (parse_count(words[0]), [parse_count(word) for word in words[1:]])
    if before and len(before[0][1]) != len(entry[1]):
        return None
    return entry
