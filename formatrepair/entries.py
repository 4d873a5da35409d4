"""The entries of a catalog: a dict from names to expressions, which may name one another."""

from formatrepair.errors import Circular, InvalidTree, TooMany
from formatrepair.expressions import LISTED, SIGNS_BY_KIND, is_tree, names_of, parse_expression, replaced

MOST_NAMES = 40
MOST_LETTERS = 20
MOST_TREES = 100


def trees_of(entries):
    """Return a dict from the names to the trees of their expressions."""
    return {name: parse_expression(entries[name]) for name in entries}


def users_of(entries, name):
    """Return the list of the names in whose expressions a name occurs, in ascending order."""
    return [user for user in sorted(entries) if f"<{name}>" in entries[user]]


def renamed_entries(entries, name, other):
    """Return the entries with another name in the place of a name, also in the expressions."""
    return {other if key == name else key: entries[key].replace(f"<{name}>", f"<{other}>") for key in entries}


def full_tree(entries, name):
    """Return the tree of a name with all names replaced."""
    return tree_with(trees_of(entries), name, {})


def tree_with(trees, name, known):
    """Return the tree of a name with all names replaced, and keep it among the known ones."""
    if name not in known:
        tree = trees[name]
        table = {other: tree_with(trees, other, known) for other in names_of(tree)}
        known[name] = replaced(tree, table)
    return known[name]


def require_fitting_trees(trees, name):
    """Raise what keeps the trees from being those of a catalog, of which the one of the name is new."""
    circle = first_circle(trees, name)
    if circle:
        raise Circular(circle)
    if len(trees) > MOST_NAMES:
        raise TooMany(len(trees))
    sizes = {}
    known = {}
    for other in sorted(trees):
        letters, parts = size_with(trees, other, sizes)
        if letters > MOST_LETTERS:
            raise TooMany(letters)
        if parts > MOST_TREES:
            raise TooMany(parts)
        tree = tree_with(trees, other, known)
        if not is_tree(tree):
            raise InvalidTree(tree)


def first_circle(trees, name):
    """Return the first of the shortest lists in which each name uses the next one and the last one the first, or []."""
    # The ways are followed in the order of their lengths and names, so the
    # first way to each name is the first one of the shortest.
    ways = [[name]]
    seen = {name: True}
    place = 0
    while place < len(ways):
        way = ways[place]
        place += 1
        for other in names_of(trees[way[-1]]):
            if other == name:
                return way
            if other not in seen:
                seen[other] = True
                ways.append(way + [other])
    return []


def size_with(trees, name, sizes):
    """Return how many letters and trees there are in the tree of a name with all names replaced."""
    if name not in sizes:
        for other in names_of(trees[name]):
            size_with(trees, other, sizes)
        sizes[name] = size_of(trees[name], sizes)
    return sizes[name]


def size_of(tree, sizes):
    """Return how many letters and trees there are in a tree, for the sizes of its names."""
    letters = 0
    parts = 0
    waiting = [tree]
    while waiting:
        part = waiting.pop()
        kind = part[0]
        if kind == "name":
            more_letters, more_parts = sizes[part[1]]
            letters += more_letters
            parts += more_parts
        else:
            parts += 1
            if kind == "letter":
                letters += 1
            elif kind in LISTED:
                waiting.extend(part[1])
            elif kind in SIGNS_BY_KIND:
                waiting.append(part[1])
    return letters, parts
