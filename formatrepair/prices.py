"""Price tables, scripts, and edits of single letters."""

from formatrepair.basics import is_index, is_integer, is_letter, is_list, is_text, require_text
from formatrepair.costs import cost_sum, is_cheaper
from formatrepair.errors import InvalidAlphabet, InvalidList, InvalidPrice, InvalidPrices, InvalidScript
from formatrepair.errors import InvalidSymbol, InvalidTable, NoScript, NotPossible, UnknownLetter
from formatrepair.formats import require_format

MOST_LETTERS = 6
MOST_EDITS = 200
HIGHEST_PRICE = 9


class Prices:
    """The prices of single edits over an alphabet; it never changes."""

    def __init__(self, alphabet, table, *, default=None):
        if not is_alphabet(alphabet):
            raise InvalidAlphabet(alphabet)
        if not is_price_table(table, alphabet):
            raise InvalidTable(table)
        if not is_price(default):
            raise InvalidPrice(default)
        symbols = [""] + sorted(alphabet)
        self._alphabet = "".join(symbols)
        self._prices = {(x, y): 0 if x == y else table.get((x, y), default) for x in symbols for y in symbols}
        costs, chains = cheapest_chains(symbols, self._prices)
        self._costs = costs
        self._chains = chains
        self._highest = max([costs[pair] for pair in costs if costs[pair] is not None])

    def alphabet(self):
        """Return the letters as a string in ascending order."""
        return self._alphabet

    def price(self, source, target):
        """Return the price of a single edit, or None if it is not allowed."""
        self._require_symbols(source, target)
        return self._prices[source, target]

    def cost(self, source, target):
        """Return the cost of a cheapest chain, or None if there is no chain."""
        self._require_symbols(source, target)
        return self._costs[source, target]

    def chain(self, source, target):
        """Return the list of the letters and empty strings of a cheapest chain, or None."""
        self._require_symbols(source, target)
        if self._costs[source, target] is None:
            return None
        return list(self._chains[source, target])

    def _require_symbols(self, source, target):
        """Raise InvalidSymbol for the first of both that is no symbol of the alphabet."""
        for symbol in (source, target):
            if not is_symbol(symbol, self._alphabet):
                raise InvalidSymbol(symbol)

    @property
    def highest(self):
        """The greatest cost of a pair that is not None."""
        return self._highest

    def __eq__(self, other):
        return isinstance(other, Prices) and self._alphabet == other._alphabet and self._prices == other._prices


def is_alphabet(value):
    """Return whether the value is a string of one to six different letters."""
    return is_text(value) and 1 <= len(value) <= MOST_LETTERS and len(set(value)) == len(value)


def is_symbol(value, alphabet):
    """Return whether the value is a letter of the alphabet or the empty string."""
    return value == "" or (is_letter(value) and value in alphabet)


def is_price(value):
    """Return whether the value is an integer from 0 to 9 or None."""
    return value is None or is_index(value, HIGHEST_PRICE + 1)


def is_price_table(value, alphabet):
    """Return whether the value is a dict from pairs of different symbols to prices."""
    if not isinstance(value, dict):
        return False
    return all([is_edit(key, alphabet) and is_price(value[key]) for key in value])


def is_edit(value, alphabet):
    """Return whether the value is a pair of different symbols."""
    return is_pair(value, alphabet) and value[0] != value[1]


def is_pair(value, alphabet):
    """Return whether the value is a pair of a script."""
    if not isinstance(value, tuple) or len(value) != 2:
        return False
    source, target = value
    return is_symbol(source, alphabet) and is_symbol(target, alphabet) and len(source) + len(target) > 0


def cheapest_chains(symbols, prices):
    """Return the costs of all pairs of symbols, and a cheapest chain for each pair that has a cost."""
    costs = {pair: prices[pair] for pair in prices}
    chains = {(x, y): [x] if x == y else [x, y] for x in symbols for y in symbols}
    for middle in symbols:
        for x in symbols:
            for y in symbols:
                through = cost_sum(costs[x, middle], costs[middle, y])
                # A chain that is not cheaper is not taken, so no entry comes twice.
                if is_cheaper(through, costs[x, y]):
                    costs[x, y] = through
                    chains[x, y] = chains[x, middle] + chains[middle, y][1:]
    return costs, chains


def require_prices(value):
    """Raise InvalidPrices if the value is not a Prices object."""
    if not isinstance(value, Prices):
        raise InvalidPrices(value)


def require_known(prices, letters):
    """Raise UnknownLetter with the first of the letters that is not in the alphabet."""
    for letter in letters:
        if letter not in prices.alphabet():
            raise UnknownLetter(letter)


def require_text_over(prices, text):
    """Raise InvalidText if the value is not a text, UnknownLetter if it is not one over the alphabet."""
    require_text(text)
    require_known(prices, text)


def require_format_over(prices, text_format):
    """Raise InvalidFormat if the value is not a Format, UnknownLetter if it is not one over the alphabet."""
    require_format(text_format)
    require_known(prices, text_format.letters())


def is_script(prices, value):
    """Return whether the value is a script over the alphabet."""
    require_prices(prices)
    return is_list(value) and all([is_pair(pair, prices.alphabet()) for pair in value])


def require_script(prices, script):
    """Raise InvalidScript if the value is not a script over the alphabet."""
    if not is_script(prices, script):
        raise InvalidScript(script)


def script_source(prices, script):
    """Return the text that a script leads from."""
    require_script(prices, script)
    return "".join([source for source, _ in script])


def script_target(prices, script):
    """Return the text that a script leads to."""
    require_script(prices, script)
    return "".join([target for _, target in script])


def script_cost(prices, script):
    """Return the sum of the costs of the pairs of a script, or None if one of them is None."""
    require_script(prices, script)
    total = 0
    for source, target in script:
        total = cost_sum(total, prices.cost(source, target))
    return total


def apply_edits(prices, text, edits):
    """Return the text after a list of single edits, and the sum of their prices."""
    require_prices(prices)
    require_text_over(prices, text)
    if not is_edit_list(edits, prices.alphabet()):
        raise InvalidList(edits)
    total = 0
    for number, (place, source, target) in enumerate(edits):
        price = prices.price(source, target)
        if price is None or not is_possible(text, place, source):
            raise NotPossible(number)
        text = text[:place] + target + text[place + len(source):]
        total += price
    return text, total


def is_edit_list(value, alphabet):
    """Return whether the value is a list of at most 200 single edits."""
    return is_list(value) and len(value) <= MOST_EDITS and all([is_single_edit(edit, alphabet) for edit in value])


def is_single_edit(value, alphabet):
    """Return whether the value is a tuple of a place and two different symbols."""
    if not isinstance(value, tuple) or len(value) != 3:
        return False
    return is_integer(value[0]) and value[0] >= 0 and is_edit(value[1:], alphabet)


def is_possible(text, place, source):
    """Return whether the text has the source at the place; it has the empty string also at its end."""
    return place + len(source) <= len(text) and text.startswith(source, place)


def edits_of(prices, script):
    """Return the list of single edits that do what a script does, for the same cost."""
    if script_cost(prices, script) is None:
        raise NoScript()
    edits = []
    place = 0
    for source, target in script:
        chain = prices.chain(source, target)
        for number, symbol in enumerate(chain[1:]):
            edits.append((place, chain[number], symbol))
        place += len(target)
    return edits
