"""By how much a state of a second format may be worse than another one, whatever follows in a first format."""

from formatrepair.costs import is_cheaper

# A greater excess is not looked for: it hardly ever tells that a state is worthless.
MOST = 30


def excess_matrices(first, ends, moves, needs):
    """Return for each state of the first format a matrix with numbers of at least 0, or None.

    Whatever follows in the first format, it costs from the state i of the
    second format at most the item [i][j] more than from the state j. The
    moves are the priced_moves of the letters, and the needs are the least
    costs of what follows.
    """
    rows, accepting = first
    size = len(needs[0])
    found = [[[0 for _ in range(size)] for _ in range(size)] for _ in rows]
    for state in accepting:
        for there in ends:
            for here in range(size):
                if here not in ends:
                    found[state][here][there] = None
    while raise_excesses(found, rows, moves, needs):
        pass
    return found


def raise_excesses(found, rows, moves, needs):
    """Raise the items to what the letters ask for, and return whether one of them is greater now."""
    changed = False
    for state, row in enumerate(rows):
        for here, items in enumerate(found[state]):
            for there, old in enumerate(list(items)):
                if here != there and old is not None:
                    asked = [letter_excess(moves[letter], here, there, found[row[letter]], needs[row[letter]])
                             for letter in row]
                    new = None if None in asked else max([old] + asked)
                    if is_cheaper(old, new):
                        items[there] = new
                        changed = True
    return changed


def letter_excess(moves, here, there, behind, needs):
    """Return the excess of one state over another one if a letter follows, for the excesses behind it."""
    excess = 0
    for target, price in moves[there]:
        if needs[target] is not None:
            ways = [cost + behind[goal][target] - price for goal, cost in moves[here]
                    if behind[goal][target] is not None]
            least = min(ways, default=None)
            if least is None or least > MOST:
                return None
            excess = max(excess, least)
    return excess
