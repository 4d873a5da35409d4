"""Tables of bounds, and what the texts of the first format of a comparison cost."""

from formatrepair.basics import is_index, is_list, require_integer
from formatrepair.comparisons import require_comparison
from formatrepair.costrows import covers
from formatrepair.costs import is_cost
from formatrepair.errors import InvalidList, MissingText
from formatrepair.formats import Format
from formatrepair.offsets import OffsetRows

LONGEST = 60
HIGHEST_COST = 60


def is_table(value, many, size):
    """Return whether the value is a list of tuples of one of so many states and a list of so many costs."""
    return is_list(value) and all([is_entry(entry, many, size) for entry in value])


def is_entry(value, many, size):
    """Return whether the value is an entry of a table of bounds."""
    if not isinstance(value, tuple) or len(value) != 2 or not is_index(value[0], many):
        return False
    return is_list(value[1]) and len(value[1]) == size and all([is_cost(cost) for cost in value[1]])


def first_table_error(comparison, cost, table):
    """Return None if the table shows that no text costs more than the cost, and otherwise its first error."""
    require_comparison(comparison)
    require_integer(cost, 0, None)
    first = comparison.first()
    if not is_table(table, first.size, comparison.second().size):
        raise InvalidList(table)
    reader = comparison.reader(None)
    claims = [[tuple(costs) for state, costs in table if state == here] for here in range(first.size)]
    if not is_covered(claims[0], reader.start_row()):
        return ("start",)
    for number, (state, costs) in enumerate(table):
        row = reader.first_rows[state]
        for letter in row:
            if not is_covered(claims[row[letter]], reader.stepped(costs, letter)):
                return ("letter", number, letter)
        if reader.is_end(state) and not is_at_most(reader.end_cost(costs), cost):
            return ("end", number)
    return None


def is_covered(claims, row):
    """Return whether one of the claims promises no less than a row."""
    for claim in claims:
        if covers(claim, row):
            return True
    return False


def is_at_most(cost, most):
    """Return whether a cost is not None and at most as great as a number."""
    return cost is not None and cost <= most


def expensive(comparison, cost):
    """Return the format of the texts of the first format that cost more than the cost."""
    require_comparison(comparison)
    require_integer(cost, 0, HIGHEST_COST)
    reader = comparison.reader(cost)
    places = [(0, reader.first_row())]
    numbers = {places[0]: 0}
    rows = []
    while len(rows) < len(places):
        state, costs = places[len(rows)]
        ways = {}
        for letter in reader.first_rows[state]:
            target = reader.first_rows[state][letter]
            place = (target, reader.next_row(costs, letter, target))
            if place not in numbers:
                numbers[place] = len(places)
                places.append(place)
            ways[letter] = numbers[place]
        rows.append(ways)
    beyond = [number for number, (state, costs) in enumerate(places)
              if reader.is_end(state) and reader.end_cost(costs) is None]
    return Format(rows, beyond)


def cost_counts(comparison, length):
    """Return a dict from the costs of the texts of a length to the numbers of these texts."""
    require_comparison(comparison)
    require_integer(length, 0, LONGEST)
    return OffsetRows(comparison.reader(None)).counts(length)


def costliest_text(comparison, length):
    """Return the first of the texts of a length whose cost is greatest."""
    require_comparison(comparison)
    require_integer(length, 0, LONGEST)
    text = OffsetRows(comparison.reader(None)).costliest(length)
    if text is None:
        raise MissingText(length)
    return text


def greatest_cost(comparison, longest):
    """Return the greatest cost of a text of at most a length, or None."""
    require_comparison(comparison)
    require_integer(longest, 0, LONGEST)
    costs = OffsetRows(comparison.reader(None)).greatest(longest)
    if not costs:
        raise MissingText(longest)
    return costs[0]
