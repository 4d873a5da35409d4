"""Formats, prices and patterns that are drawn, always the same ones for a seed."""

from random import Random

from formatrepair.formats import Format
from formatrepair.prices import Prices

from test_prices import made_at_random


def drawn_format(random, letters, size, density=0.8):
    """Return a format that is not empty and has exactly so many states."""
    while True:
        rows = [{letter: random.randrange(size) for letter in letters if random.random() < density} for _ in range(size)]
        made = Format(rows, [state for state in range(size) if random.random() < 0.4])
        if made.size == size:
            return made


def drawn_prices(random, letters):
    """Return prices of one of several kinds: all alike, a few others, few edits at all, many of them for nothing."""
    kind = random.randrange(5)
    symbols = ["", *letters]
    pairs = [(x, y) for x in symbols for y in symbols if x != y]
    if kind == 0:
        return Prices(letters, {}, default=random.choice([1, 1, 2]))
    if kind == 1:
        return Prices(letters, {pair: random.choice([0, 1, 2]) for pair in pairs if random.random() < 0.3})
    if kind == 2:
        return Prices(letters, {pair: random.choice([0, 1, 1, 3, 9]) for pair in pairs if random.random() < 0.5}, default=1)
    return made_at_random(random, letters)


def drawn_cases(seed, many, letters="ab", sizes=((1, 3), (1, 3))):
    """Return several triples of prices and two formats."""
    random = Random(seed)
    cases = []
    for _ in range(many):
        first = drawn_format(random, letters, random.randint(*sizes[0]))
        second = drawn_format(random, letters, random.randint(*sizes[1]))
        cases.append((drawn_prices(random, letters), first, second))
    return cases


def drawn_pattern(random, letters, depth=3):
    """Return a short pattern with repetitions that are at most so deep."""
    items = []
    for _ in range(random.randint(1, 3)):
        if depth and random.random() < 0.4:
            items.append(("repeat", drawn_pattern(random, letters, depth - 1)))
        else:
            items.append(random.choice(letters))
    return items


def drawn_patterns(seed, many, letters="ab", depth=3):
    random = Random(seed)
    return [drawn_pattern(random, letters, depth) for _ in range(many)]
