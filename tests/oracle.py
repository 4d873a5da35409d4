"""The meaning of trees, tables, prices and scripts, worked out without the package."""

from functools import lru_cache
from heapq import heappop, heappush
from itertools import product


def texts_up_to(letters, longest):
    """Return all texts over the letters up to a length, in the order of the document."""
    return ["".join(text) for length in range(longest + 1) for text in product(sorted(letters), repeat=length)]


def joined(one, other, longest):
    return {left + right for left in one for right in other if len(left + right) <= longest}


def repeated(texts, longest):
    """Return the texts joined any number of times, also not at all."""
    found = {""}
    new = {""}
    while new:
        new = joined(new, texts, longest) - found
        found |= new
    return found


def tree_texts(tree, longest):
    """Return the set of the texts of a tree up to a length."""
    kind = tree[0]
    if kind == "none":
        return set()
    if kind == "empty":
        return {""}
    if kind == "letter":
        return {tree[1]} if longest >= 1 else set()
    if kind == "sequence":
        found = {""}
        for part in tree[1]:
            found = joined(found, tree_texts(part, longest), longest)
        return found
    if kind == "choice":
        return set().union(*[tree_texts(part, longest) for part in tree[1]])
    inner = tree_texts(tree[1], longest)
    if kind == "maybe":
        return inner | {""}
    if kind == "many":
        return repeated(inner, longest)
    return joined(inner, repeated(inner, longest), longest)


def table_accepts(rows, accepting, text, start=0):
    """Return whether a table accepts a text that is read from the start."""
    if start >= len(rows):
        return False
    for letter in text:
        if letter not in rows[start]:
            return False
        start = rows[start][letter]
    return start in accepting


def table_texts(rows, accepting, longest, start=0):
    """Return the set of the texts up to a length that a table accepts from a state."""
    letters = {letter for row in rows for letter in row}
    return {text for text in texts_up_to(letters, longest) if table_accepts(rows, accepting, text, start)}


def faults_of_smallest(rows, accepting):
    """Return what keeps a table from being the smallest one, numbered as the document tells."""
    faults = []
    size = len(rows)
    # Two states of a table differ by a text of less than its size, if they differ.
    behind = [table_texts(rows, accepting, size, state) for state in range(size)]
    for state in range(size):
        if not behind[state]:
            faults.append(f"nothing is accepted from {state}")
        if behind[state] in behind[:state]:
            faults.append(f"{state} is like another state")
        if list(rows[state]) != sorted(rows[state]):
            faults.append(f"the letters of {state} are in another order")
    if accepting != sorted(set(accepting)):
        faults.append("the accepting states are in another order")
    order = [0] if size else []
    for state in order:
        order.extend(target for target in dict.fromkeys(rows[state].values()) if target not in order)
    if order != list(range(size)):
        faults.append(f"the states are numbered as {order}")
    return faults


ENDLESS = 10 ** 6


def chain_costs(alphabet, price):
    """Return the least sums of prices from symbol to symbol, ENDLESS where there is no chain."""
    symbols = ["", *alphabet]
    costs = {(x, y): 0 if x == y else ENDLESS for x in symbols for y in symbols}
    for _ in symbols:
        for x, y, z in product(symbols, repeat=3):
            if y != z and price(y, z) is not None:
                costs[x, z] = min(costs[x, z], costs[x, y] + price(y, z))
    return costs


def number_or_none(cost):
    return None if cost >= ENDLESS else cost


def script_cost_between(costs, source, target):
    """Return the cost of the cheapest script from one text to another one, or None."""

    @lru_cache(maxsize=None)
    def least(i, j):
        if i == j == 0:
            return 0
        ways = [ENDLESS]
        if i:
            ways.append(least(i - 1, j) + costs[source[i - 1], ""])
        if j:
            ways.append(least(i, j - 1) + costs["", target[j - 1]])
        if i and j:
            ways.append(least(i - 1, j - 1) + costs[source[i - 1], target[j - 1]])
        return min(ways)

    return number_or_none(least(len(source), len(target)))


def least_cost_between(costs, sources, targets):
    """Return the least cost of a script from one of the sources to one of the targets, or None."""
    found = [script_cost_between(costs, source, target) for source in sources for target in targets]
    return min((cost for cost in found if cost is not None), default=None)


def chain_rows(text):
    """Return the rows of a table that reads the letters of a text one after another."""
    return [{letter: place + 1} for place, letter in enumerate(text)] + [{}]


def table_costs(costs, one, ends, other, goals):
    """Return the rows of the least costs from each two states of two tables to ends and goals, or None."""
    found = [[0 if i in ends and j in goals else ENDLESS for j in range(len(other))] for i in range(len(one))]
    changed = True
    while changed:
        changed = False
        for i in reversed(range(len(one))):
            for j in range(len(other)):
                for x, behind in [("", i), *one[i].items()]:
                    for y, end in [("", j), *other[j].items()]:
                        if costs[x, y] + found[behind][end] < found[i][j]:
                            found[i][j] = costs[x, y] + found[behind][end]
                            changed = True
    return [[number_or_none(cost) for cost in row] for row in found]


def edit_costs(prices, source, longest):
    """Return the least sums of the prices of single edits from a text to each text up to a length."""
    alphabet = prices.alphabet()
    found = {}
    queue = [(0, source)]
    while queue:
        cost, text = heappop(queue)
        if text in found:
            continue
        found[text] = cost
        for place in range(len(text) + 1):
            for old in {"", text[place:place + 1]}:
                for new in ["", *alphabet]:
                    after = text[:place] + new + text[place + len(old):]
                    if old != new and len(after) <= longest and prices.price(old, new) is not None:
                        heappush(queue, (cost + prices.price(old, new), after))
    return found
