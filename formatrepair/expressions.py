"""Expressions, and the trees that tell how they are built."""

from formatrepair.basics import LONGEST_NAME, is_letter, is_list, is_name
from formatrepair.errors import InvalidExpression, InvalidList, InvalidText, InvalidTree, UnknownName

MOST_OPEN = 20
KINDS_BY_SIGN = {"*": "many", "+": "some", "?": "maybe"}
SIGNS_BY_KIND = {"many": "*", "some": "+", "maybe": "?"}
LISTED = ("sequence", "choice")

# The places where a tree may be written, each asking for parentheses
# around the kinds of the one before it and around more.
WHOLE = 0
ROW = 1
ITEM = 2
OPERAND = 3


def parse_expression(text):
    """Return the tree of an expression."""
    if not isinstance(text, str):
        raise InvalidText(text)
    groups = [[[]]]
    # An expression begins like the inside of parentheses.
    before = "("
    index = 0
    while index < len(text):
        mark = text[index]
        if mark == "<":
            end = name_end(text, index)
            groups[-1][-1].append(("name", text[index + 1:end]))
            index = end
        elif may_follow(mark, before, len(groups) - 1):
            read_mark(groups, mark)
        else:
            raise InvalidExpression(index)
        before = mark
        index += 1
    if len(groups) > 1:
        raise InvalidExpression(len(text))
    return group_tree(groups[0])


def may_follow(mark, before, depth):
    """Return whether a character may stand behind another one, in so many open parentheses."""
    if mark in KINDS_BY_SIGN:
        return before not in KINDS_BY_SIGN and before != "|" and before != "("
    if mark == "(":
        return depth < MOST_OPEN
    if mark == ")":
        return depth > 0
    return mark == "|" or mark == "0" or is_letter(mark)


def read_mark(groups, mark):
    """Add a character that may follow to the open groups, the innermost one being the last.

    A group is the list of its rows, and a row is the list of the trees of its items.
    """
    items = groups[-1][-1]
    if mark in KINDS_BY_SIGN:
        items[-1] = (KINDS_BY_SIGN[mark], items[-1])
    elif mark == "(":
        groups.append([[]])
    elif mark == ")":
        tree = group_tree(groups.pop())
        groups[-1][-1].append(tree)
    elif mark == "|":
        groups[-1].append([])
    elif mark == "0":
        items.append(("none",))
    else:
        items.append(("letter", mark))


def name_end(text, start):
    """Return the index of the bracket that closes the one at the start."""
    end = start + 1
    while end < len(text) and end - start <= LONGEST_NAME and is_letter(text[end]):
        end += 1
    if end == start + 1 or end == len(text) or text[end] != ">":
        raise InvalidExpression(end)
    return end


def group_tree(rows):
    """Return the tree of alternatives, each a list of the trees of its items."""
    if len(rows) == 1:
        return row_tree(rows[0])
    return ("choice", [row_tree(row) for row in rows])


def row_tree(items):
    """Return the tree of a row of items."""
    if len(items) == 0:
        return ("empty",)
    if len(items) == 1:
        return items[0]
    return ("sequence", items)


def needs_parentheses(kind, place):
    """Return whether a tree of this kind stands in parentheses at this place."""
    if kind == "choice":
        return place >= ROW
    if kind == "sequence" or kind == "empty":
        return place >= ITEM
    return kind in SIGNS_BY_KIND and place == OPERAND


def place_inside(kind):
    """Return the place of the trees that stand in a tree of this kind."""
    if kind == "choice":
        return ROW
    if kind == "sequence":
        return ITEM
    return OPERAND


def is_tree(value):
    """Return whether the value is the tree of an expression."""
    return is_tree_at(value, WHOLE, MOST_OPEN)


def is_tree_at(value, place, room):
    """Return whether the value is a tree that needs at most room nested parentheses here."""
    if not isinstance(value, tuple) or len(value) == 0 or not isinstance(value[0], str):
        return False
    kind = value[0]
    if needs_parentheses(kind, place):
        return room > 0 and is_tree_at(value, WHOLE, room - 1)
    if kind == "none" or kind == "empty":
        return len(value) == 1
    if len(value) != 2:
        return False
    if kind == "letter":
        return is_letter(value[1])
    if kind == "name":
        return is_name(value[1])
    if kind in SIGNS_BY_KIND:
        return is_tree_at(value[1], place_inside(kind), room)
    return kind in LISTED and are_trees_at(value[1], place_inside(kind), room)


def are_trees_at(value, place, room):
    """Return whether the value is a list of two or more trees as is_tree_at tells."""
    if not is_list(value) or len(value) < 2:
        return False
    for part in value:
        if not is_tree_at(part, place, room):
            return False
    return True


def require_tree(value):
    """Raise InvalidTree if the value is not the tree of an expression."""
    if not is_tree(value):
        raise InvalidTree(value)


def expression_text(tree):
    """Return the shortest expression of a tree."""
    require_tree(tree)
    return written_at(tree, WHOLE)


def written_at(tree, place):
    """Return the shortest expression of a tree at a place."""
    kind = tree[0]
    if needs_parentheses(kind, place):
        return f"({written_at(tree, WHOLE)})"
    if kind == "letter":
        return tree[1]
    if kind == "name":
        return f"<{tree[1]}>"
    if kind in SIGNS_BY_KIND:
        return written_at(tree[1], place_inside(kind)) + SIGNS_BY_KIND[kind]
    if kind == "sequence":
        return "".join([written_at(part, place_inside(kind)) for part in tree[1]])
    if kind == "choice":
        return "|".join([written_at(part, place_inside(kind)) for part in tree[1]])
    return "0" if kind == "none" else ""


def words_of(tree, kind):
    """Return the letters or the names of a tree, from left to right, as often as they stand in it."""
    found = []
    waiting = [tree]
    while waiting:
        part = waiting.pop()
        if part[0] in LISTED:
            waiting.extend(part[1][::-1])
        elif part[0] in SIGNS_BY_KIND:
            waiting.append(part[1])
        elif part[0] == kind:
            found.append(part[1])
    return found


def letters_of(tree):
    """Return the letters in a tree in ascending order."""
    require_tree(tree)
    return sorted(set(words_of(tree, "letter")))


def names_of(tree):
    """Return the names in a tree in ascending order."""
    require_tree(tree)
    return sorted(set(words_of(tree, "name")))


def with_names(tree, table):
    """Return the tree with each name replaced by its tree in the table."""
    require_tree(tree)
    if not is_tree_table(table):
        raise InvalidList(table)
    for name in words_of(tree, "name"):
        if name not in table:
            raise UnknownName(name)
    result = replaced(tree, table)
    require_tree(result)
    return result


def is_tree_table(value):
    """Return whether the value is a dict from names to trees."""
    if not isinstance(value, dict):
        return False
    return all([is_name(key) and is_tree(value[key]) for key in value])


def replaced(tree, table):
    """Return a copy of the tree, with new lists, in which the names of the table are replaced."""
    kind = tree[0]
    if kind == "name" and tree[1] in table:
        # The names in the replacing tree stay, so it is copied with no table.
        return replaced(table[tree[1]], {})
    if kind in SIGNS_BY_KIND:
        return (kind, replaced(tree[1], table))
    if kind in LISTED:
        return (kind, [replaced(part, table) for part in tree[1]])
    return tree
