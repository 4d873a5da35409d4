"""State tables: a list of rows, dicts from letters to states, and a list of accepting states."""

from formatrepair.basics import is_index, is_letter, is_list


def is_rows(value):
    """Return whether the value is a list of dicts from letters to states."""
    if not is_list(value):
        return False
    for row in value:
        if not isinstance(row, dict):
            return False
        for letter in row:
            if not is_letter(letter) or not is_index(row[letter], len(value)):
                return False
    return True


def are_states(value, rows):
    """Return whether the value is a list of states of the table."""
    return is_list(value) and all([is_index(state, len(rows)) for state in value])


def smallest_table(rows, accepting):
    """Return the rows and the accepting states of the smallest table with the same texts."""
    distances = end_distances(rows, accepting)
    if len(rows) == 0 or distances[0] is None:
        return [], []
    # States with other distances accept other texts, so the distances
    # are classes to begin with, and those of long chains are final.
    return numbered_table(rows, distances, stable_classes(rows, distances))


def end_distances(rows, accepting):
    """Return for each state the length of the shortest text that leads to acceptance, or None."""
    sources = [[] for _ in rows]
    for state, row in enumerate(rows):
        for letter in row:
            sources[row[letter]].append(state)
    distances = [None for _ in rows]
    layer = sorted(set(accepting))
    length = 0
    while layer:
        for state in layer:
            distances[state] = length
        layer = sorted({source for state in layer for source in sources[state] if distances[source] is None})
        length += 1
    return distances


def shortest_way(table, start):
    """Return the first text that leads a table, in which there is one, from the start to acceptance."""
    rows, accepting = table
    distances = end_distances(rows, accepting)
    letters = []
    state = start
    for left in range(distances[start] - 1, -1, -1):
        row = rows[state]
        letters.append(min([letter for letter in row if distances[row[letter]] == left]))
        state = row[letters[-1]]
    return "".join(letters)


def stable_classes(rows, classes):
    """Split the classes of the states until those of one class accept the same texts."""
    many = 0
    while len(set(classes)) > many:
        many = len(set(classes))
        classes = split_classes(rows, classes)
    return classes


def split_classes(rows, classes):
    """Tell apart states of one class whose letters lead to different classes; None stays None."""
    numbers = {}
    finer = []
    for row, old in zip(rows, classes):
        if old is None:
            finer.append(None)
        else:
            ways = [(letter, classes[row[letter]]) for letter in sorted(row)]
            key = (old, tuple([way for way in ways if way[1] is not None]))
            if key not in numbers:
                numbers[key] = len(numbers)
            finer.append(numbers[key])
    return finer


def numbered_table(rows, distances, classes):
    """Return the table of the classes, numbered in the order of the first texts that reach them."""
    members = {}
    for state, number in enumerate(classes):
        members[number] = state
    order = [classes[0]]
    numbers = {classes[0]: 0}
    smallest = []
    while len(smallest) < len(order):
        row = rows[members[order[len(smallest)]]]
        steps = {}
        for letter in sorted(row):
            target = classes[row[letter]]
            if target is not None:
                if target not in numbers:
                    numbers[target] = len(order)
                    order.append(target)
                steps[letter] = numbers[target]
        smallest.append(steps)
    accepting = [number for number, name in enumerate(order) if distances[members[name]] == 0]
    return smallest, accepting


def paired_table(one, one_accepting, other, other_accepting):
    """Return the rows that read two tables at once, and for each state whether each table accepts."""
    first = (0 if one else None, 0 if other else None)
    pairs = [first]
    numbers = {first: 0}
    rows = []
    while len(rows) < len(pairs):
        here, there = pairs[len(rows)]
        one_row = {} if here is None else one[here]
        other_row = {} if there is None else other[there]
        row = {}
        for letter in sorted(set(one_row) | set(other_row)):
            pair = (one_row.get(letter), other_row.get(letter))
            if pair not in numbers:
                numbers[pair] = len(pairs)
                pairs.append(pair)
            row[letter] = numbers[pair]
        rows.append(row)
    one_ends = set(one_accepting)
    other_ends = set(other_accepting)
    return rows, [(here in one_ends, there in other_ends) for here, there in pairs]


def has_circle(rows):
    """Return whether some text leads from a state back to it."""
    entries = [0 for _ in rows]
    for row in rows:
        for letter in row:
            entries[row[letter]] += 1
    free = [state for state, many in enumerate(entries) if many == 0]
    left = len(rows)
    while free:
        row = rows[free.pop()]
        left -= 1
        for letter in row:
            entries[row[letter]] -= 1
            if entries[row[letter]] == 0:
                free.append(row[letter])
    return left > 0
