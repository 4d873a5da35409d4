"""Costs of all texts of a length at once.

Many texts have cost rows that differ by one number in all items. A place
is a state of the first format and a row less its least item, the offset;
what follows is worked out once for each place.
"""

from formatrepair.costrows import split_row
from formatrepair.costs import cost_sum, is_cheaper


class OffsetRows:
    """The places that the texts of a first format lead to, numbered as they are found."""

    def __init__(self, reader):
        self._reader = reader
        self._places = []
        self._numbers = {}
        self._ways = {}
        self._start = self._numbered(0, reader.first_row())

    def _numbered(self, state, row):
        """Return the offset of a row and the number of its place."""
        offset, rest = split_row(row)
        place = (state, rest)
        if place not in self._numbers:
            self._numbers[place] = len(self._places)
            self._places.append(place)
        return offset, self._numbers[place]

    def _ways_from(self, number):
        """Return the list of the letters that may follow a place, each with the offset and the place behind it."""
        if number not in self._ways:
            state, row = self._places[number]
            targets = self._reader.first_rows[state]
            self._ways[number] = [
                (letter, self._numbered(targets[letter], self._reader.next_row(row, letter, targets[letter])))
                for letter in targets]
        return self._ways[number]

    def _ends(self, numbers):
        """Return a dict from those places at which a text may end to its cost behind the offset."""
        ends = {}
        for number in numbers:
            state, row = self._places[number]
            if self._reader.is_end(state):
                ends[number] = self._reader.end_cost(row)
        return ends

    def counts(self, length):
        """Return a dict from the costs of the texts of a length to the numbers of these texts."""
        offset, number = self._start
        layer = {number: {offset: 1}}
        for _ in range(length):
            layer = self._counts_behind(layer)
        ends = self._ends(layer)
        counts = {}
        for number in ends:
            for offset in layer[number]:
                cost = cost_sum(offset, ends[number])
                counts[cost] = counts.get(cost, 0) + layer[number][offset]
        order = sorted([cost for cost in counts if cost is not None]) + [cost for cost in counts if cost is None]
        return {cost: counts[cost] for cost in order}

    def _counts_behind(self, layer):
        """Return for each place one letter further a dict from offsets to the numbers of texts."""
        behind = {}
        for number in layer:
            for _, (more, target) in self._ways_from(number):
                found = behind.setdefault(target, {})
                for offset in layer[number]:
                    found[offset + more] = found.get(offset + more, 0) + layer[number][offset]
        return behind

    def greatest(self, longest):
        """Return a list of the greatest cost of the texts up to a length, without items if there are no texts."""
        offset, number = self._start
        layer = {number: offset}
        found = []
        for _ in range(longest + 1):
            ends = self._ends(layer)
            for number in ends:
                found = greater_of(found, cost_sum(layer[number], ends[number]))
            behind = {}
            for number in layer:
                for _, (more, target) in self._ways_from(number):
                    behind[target] = max(behind.get(target, 0), layer[number] + more)
            layer = behind
        return found

    def costliest(self, length):
        """Return the first of the texts of a length whose cost is greatest, or None if there is no text."""
        rests = self._rests(length)
        number = self._start[1]
        if number not in rests[0]:
            return None
        letters = []
        for rest, behind in zip(rests, rests[1:]):
            ways = [(letter, target) for letter, (more, target) in self._ways_from(number)
                    if target in behind and cost_sum(more, behind[target]) == rest[number]]
            letter, number = ways[0]
            letters.append(letter)
        return "".join(letters)

    def _rests(self, length):
        """Return for each number of letters read a dict from places to the greatest cost of what follows.

        Places from which no text has the length are left out.
        """
        layers = [[self._start[1]]]
        for _ in range(length):
            layers.append(sorted({way[1][1] for number in layers[-1] for way in self._ways_from(number)}))
        rests = [self._ends(layers[-1])]
        for layer in layers[:-1][::-1]:
            rests.append(self._rests_before(layer, rests[-1]))
        return rests[::-1]

    def _rests_before(self, layer, behind):
        """Return the greatest costs of what follows the places of a layer, for those of the layer behind it."""
        rests = {}
        for number in layer:
            found = []
            for _, (more, target) in self._ways_from(number):
                if target in behind:
                    found = greater_of(found, cost_sum(more, behind[target]))
            if found:
                rests[number] = found[0]
        return rests


def greater_of(found, cost):
    """Return a list of the greater one of a cost and the item of a list, if it has one; None is greatest."""
    if found and not is_cheaper(found[0], cost):
        return found
    return [cost]
