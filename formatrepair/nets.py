"""Nets: tables with any number of next states and of starts, from which formats are built.

A net is a tuple of the list of its starts, the list of its rows, dicts
from letters to lists of states, and the list of its accepting states,
its ends. A text is accepted if some way over its letters leads from a
start to an end.
"""


def table_net(rows, accepting):
    """Return the net of a state table."""
    starts = [0] if rows else []
    return starts, [{letter: [row[letter]] for letter in row} for row in rows], list(accepting)


def tree_net(tree):
    """Return the net of the texts of a tree without names."""
    kind = tree[0]
    if kind == "none":
        return [], [], []
    if kind == "empty":
        return [0], [{}], [0]
    if kind == "letter":
        return [0], [{tree[1]: [1]}, {}], [1]
    if kind == "sequence":
        return sequence_net(tree[1])
    if kind == "choice":
        return choice_net(tree[1])
    inner = tree_net(tree[1])
    if kind == "some":
        return some_net(inner)
    if kind == "maybe":
        return maybe_net(inner)
    return maybe_net(some_net(inner))


def sequence_net(trees):
    """Return the net of the texts of all trees, joined in this order."""
    net = tree_net(trees[0])
    for tree in trees[1:]:
        net = joined_nets(net, tree_net(tree))
    return net


def choice_net(trees):
    """Return the net of the texts of at least one of the trees."""
    starts, rows, ends = tree_net(trees[0])
    for tree in trees[1:]:
        more_starts, more_rows, more_ends = moved_net(tree_net(tree), len(rows))
        starts = starts + more_starts
        rows = rows + more_rows
        ends = ends + more_ends
    return starts, rows, ends


def moved_net(net, by):
    """Return the net with all its states numbered higher."""
    starts, rows, ends = net
    moved = [{letter: [state + by for state in row[letter]] for letter in row} for row in rows]
    return [state + by for state in starts], moved, [state + by for state in ends]


def joined_nets(one, other):
    """Return the net of the texts of the one joined with those of the other."""
    starts, rows, ends = one
    more_starts, more_rows, more_ends = moved_net(other, len(rows))
    return with_more(starts, ends, more_starts), linked_rows(rows, ends, more_starts) + more_rows, more_ends


def some_net(net):
    """Return the net of the texts of a net joined any number of times, at least once."""
    starts, rows, ends = net
    return starts, linked_rows(rows, ends, starts), ends


def maybe_net(net):
    """Return the net of the texts of a net and the empty text."""
    starts, rows, ends = net
    # A start of the net cannot become an end: some way may come back to it.
    return starts + [len(rows)], rows + [{}], ends + [len(rows)]


def linked_rows(rows, ends, more):
    """Return the rows in which each letter that leads to an end also leads to more states."""
    return [{letter: with_more(row[letter], ends, more) for letter in row} for row in rows]


def with_more(states, ends, more):
    """Return the states, with more states if one of them is an end."""
    if any([state in ends for state in states]):
        return sorted(set(states + more))
    return states


def table_of(net):
    """Return the rows and the accepting states of a table with the texts of a net."""
    starts, rows, ends = net
    first = tuple(sorted(set(starts)))
    groups = [first]
    numbers = {first: 0}
    table = []
    while len(table) < len(groups):
        ways = group_row(rows, groups[len(table)])
        row = {}
        for letter in ways:
            if ways[letter] not in numbers:
                numbers[ways[letter]] = len(groups)
                groups.append(ways[letter])
            row[letter] = numbers[ways[letter]]
        table.append(row)
    final = set(ends)
    return table, [number for number, group in enumerate(groups) if any([state in final for state in group])]


def group_row(rows, group):
    """Return a dict from letters to the ascending tuples of the next states of a group."""
    found = {}
    for state in group:
        for letter in rows[state]:
            found[letter] = found.get(letter, []) + rows[state][letter]
    return {letter: tuple(sorted(set(found[letter]))) for letter in found}
