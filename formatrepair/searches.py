"""Cheapest scripts between two state tables, each a tuple of its rows and its accepting states.

A script leads from a state of each table: the letters of its source lead
the one table on, and those of its target lead the other table on.
"""

from heapq import heappop, heappush

from formatrepair.basics import is_grid
from formatrepair.costs import cost_sum, is_cheaper, is_cost


def text_table(text):
    """Return the table of the format of one text, with a state for each place in the text."""
    return [{letter: place + 1} for place, letter in enumerate(text)] + [{}], [len(text)]


def format_table(text_format):
    """Return the smallest table of a format."""
    return text_format.rows(), text_format.accepting()


def pair_costs(prices):
    """Return a dict from the pairs of scripts to their costs, without those that have none."""
    symbols = [""] + list(prices.alphabet())
    pairs = [(x, y) for x in symbols for y in symbols if x != "" or y != ""]
    return {(x, y): prices.cost(x, y) for x, y in pairs if prices.cost(x, y) is not None}


def least_costs(prices, one, other):
    """Return the least cost of a script from each two states to acceptance in both tables, or None."""
    found, _ = searched(prices, one, other)
    return found


def cheapest_way(prices, one, other, start=0):
    """Return the least cost of a script between texts of two tables and such a script, or None.

    The text of the other table leads on from the start.
    """
    if len(one[0]) == 0 or len(other[0]) == 0:
        return None
    found, steps = searched(prices, one, other)
    if found[0][start] is None:
        return None
    script = []
    step = steps[0][start]
    while step is not None:
        source, target, state, goal = step
        script.append((source, target))
        step = steps[state][goal]
    return found[0][start], script


def searched(prices, one, other):
    """Return for each two states the least cost, and the first pair of a cheapest script with the states behind it."""
    costs = pair_costs(prices)
    one_entries = entries_of(one[0])
    other_entries = entries_of(other[0])
    found = [[None for _ in other[0]] for _ in one[0]]
    steps = [[None for _ in other[0]] for _ in one[0]]
    queue = []
    for state in one[1]:
        for goal in other[1]:
            found[state][goal] = 0
            heappush(queue, (0, state, goal))
    while queue:
        cost, state, goal = heappop(queue)
        if cost == found[state][goal]:
            for source, before in one_entries[state]:
                for target, origin in other_entries[goal]:
                    more = cost_sum(cost, costs.get((source, target)))
                    if is_cheaper(more, found[before][origin]):
                        found[before][origin] = more
                        steps[before][origin] = (source, target, state, goal)
                        heappush(queue, (more, before, origin))
    return found, steps


def entries_of(rows):
    """Return for each state the list of the letters and states that lead to it, and the empty string that stays."""
    entries = [[("", state)] for state in range(len(rows))]
    for state, row in enumerate(rows):
        for letter in row:
            entries[row[letter]].append((letter, state))
    return entries


def is_lower_bound(prices, one, other, value):
    """Return whether the value is a list of rows of costs that no script from two states falls below."""
    if not is_grid(value, len(one[0]), len(other[0])):
        return False
    if not all([is_cost(item) for row in value for item in row]):
        return False
    if not all([value[state][goal] == 0 for state in one[1] for goal in other[1]]):
        return False
    costs = pair_costs(prices)
    for state, row in enumerate(one[0]):
        for goal, other_row in enumerate(other[0]):
            bounds = [cost_sum(costs.get((source, target)), value[behind][end])
                      for source, behind in exits_of(row, state) for target, end in exits_of(other_row, goal)]
            if any([is_cheaper(bound, value[state][goal]) for bound in bounds]):
                return False
    return True


def exits_of(row, state):
    """Return the list of the letters that lead on with their states, and the empty string that stays."""
    return [("", state)] + [(letter, row[letter]) for letter in row]
