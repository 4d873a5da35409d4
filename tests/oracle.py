"""The meaning of trees and tables, worked out text by text, without the package."""

from itertools import product


def texts_up_to(letters, longest):
    """Return all texts over the letters up to a length, in the order of the document."""
    return ["".join(text) for length in range(longest + 1) for text in product(sorted(letters), repeat=length)]


def joined(one, other, longest):
    return {left + right for left in one for right in other if len(left + right) <= longest}


def repeated(texts, longest):
    """Return the texts joined any number of times, also not at all."""
    found = {""}
    new = {""}
    while new:
        new = joined(new, texts, longest) - found
        found |= new
    return found


def tree_texts(tree, longest):
    """Return the set of the texts of a tree up to a length."""
    kind = tree[0]
    if kind == "none":
        return set()
    if kind == "empty":
        return {""}
    if kind == "letter":
        return {tree[1]} if longest >= 1 else set()
    if kind == "sequence":
        found = {""}
        for part in tree[1]:
            found = joined(found, tree_texts(part, longest), longest)
        return found
    if kind == "choice":
        return set().union(*[tree_texts(part, longest) for part in tree[1]])
    inner = tree_texts(tree[1], longest)
    if kind == "maybe":
        return inner | {""}
    if kind == "many":
        return repeated(inner, longest)
    return joined(inner, repeated(inner, longest), longest)


def table_accepts(rows, accepting, text, start=0):
    """Return whether a table accepts a text that is read from the start."""
    if start >= len(rows):
        return False
    for letter in text:
        if letter not in rows[start]:
            return False
        start = rows[start][letter]
    return start in accepting


def table_texts(rows, accepting, longest, start=0):
    """Return the set of the texts up to a length that a table accepts from a state."""
    letters = {letter for row in rows for letter in row}
    return {text for text in texts_up_to(letters, longest) if table_accepts(rows, accepting, text, start)}


def faults_of_smallest(rows, accepting):
    """Return what keeps a table from being the smallest one, numbered as the document tells."""
    faults = []
    size = len(rows)
    # Two states of a table differ by a text of less than its size, if they differ.
    behind = [table_texts(rows, accepting, size, state) for state in range(size)]
    for state in range(size):
        if not behind[state]:
            faults.append(f"nothing is accepted from {state}")
        if behind[state] in behind[:state]:
            faults.append(f"{state} is like another state")
        if list(rows[state]) != sorted(rows[state]):
            faults.append(f"the letters of {state} are in another order")
    if accepting != sorted(set(accepting)):
        faults.append("the accepting states are in another order")
    order = [0] if size else []
    for state in order:
        order.extend(target for target in dict.fromkeys(rows[state].values()) if target not in order)
    if order != list(range(size)):
        faults.append(f"the states are numbered as {order}")
    return faults
