"""How a comparison is decided."""

from formatrepair.costrows import BeyondSearch, ended_search, split_row
from formatrepair.matrices import is_stable_shape, shape_of, shape_product
from formatrepair.patterns import REPEAT, copied_pattern

FIRST_EFFORT = 2000


def decided(comparison, members):
    """Return the decision of a comparison, whose members are found by the search for them."""
    text = ended_search(comparison.free_reader()).found()
    if text is not None:
        return ("impossible", text)
    # Members show that there is no bound, and cost rows show that there is
    # one. Either search alone can be long, so both go on in turn.
    effort = FIRST_EFFORT
    seen = 0
    cutoff = 0
    beyond = BeyondSearch(comparison.reader(cutoff))
    while True:
        found = members.first_members(effort)
        for member in found[seen:]:
            if comparison.shows_growth(member):
                return ("unbounded", members.pattern(member))
        seen = len(found)
        if beyond.run(effort):
            text = beyond.found()
            if text is None:
                return bounded_decision(comparison, beyond.greatest_end_cost())
            pattern = repeating_pattern(comparison, text)
            if pattern is not None:
                return ("unbounded", pattern)
            cutoff = max(2 * cutoff, comparison.reader(None).cost_of(text))
            beyond = BeyondSearch(comparison.reader(cutoff))
        effort = 2 * effort


def bounded_decision(comparison, cost):
    """Return the decision for the greatest cost of the texts."""
    # If the greatest cost is 0, every text is beyond the cutoff, and the first one is found.
    text = ended_search(comparison.reader(cost - 1)).found()
    return ("bounded", cost, text, ended_search(comparison.reader(cost)).table())


def repeating_pattern(comparison, text):
    """Return a pattern that repeats a part of a text and shows that there is no bound, or None.

    It is found without the members if a part of the text leads to the same
    state and makes the cost row greater by one number in all items. Such
    parts are tried, the shortest ones first.
    """
    parts = []
    seen = {}
    for place, (state, row) in enumerate(comparison.reader(None).situations(text)):
        cost, rest = split_row(row)
        begin, before = seen.get((state, rest), (place, cost))
        if before < cost:
            parts.append((place - begin, begin))
        seen[state, rest] = (place, cost)
    for length, begin in sorted(parts):
        part = stable_part(comparison, text[begin:begin + length])
        pattern = list(text[:begin]) + [(REPEAT, list(part))] + list(text[begin + length:])
        if comparison.is_unbounded(pattern):
            return pattern
    return None


def stable_part(comparison, text):
    """Return the least repetition of a text whose shape is stable."""
    matrices = comparison.letter_matrices()
    shapes = {letter: shape_of(matrices[letter]) for letter in matrices}
    shape = shapes[text[0]]
    for letter in text[1:]:
        shape = shape_product(shape, shapes[letter])
    power = shape
    part = text
    while not is_stable_shape(power):
        power = shape_product(power, shape)
        part = part + text
    return part


def copied_decision(decision):
    """Return a decision that equals another one, with new lists."""
    if decision[0] == "unbounded":
        return ("unbounded", copied_pattern(decision[1]))
    if decision[0] == "bounded":
        kind, cost, text, table = decision
        return (kind, cost, text, [(state, list(costs)) for state, costs in table])
    return decision
