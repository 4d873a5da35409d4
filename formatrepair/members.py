"""The members of a comparison, each with a pattern that is as short as can be.

A member is a tuple of two states of the first format and a shape, which is
a tuple of tuples here. Each member is a row of factors: letters, and
repetitions of other members that lead a state back to itself. So it is
enough to join members with factors.
"""

from heapq import heappop, heappush

from formatrepair.matrices import flipped, grown_shape, is_stable_shape, least_greater
from formatrepair.patterns import REPEAT

LETTER = "letter"
JOIN = "join"


class Factor:
    """A member that is a letter or a repetition, with what its products have in common."""

    def __init__(self, member, weight):
        self.member = member
        self.weight = weight
        self._columns = flipped(member[2])
        self._products = {}

    def times_from(self, shape):
        """Return the product of a shape and the shape of this factor."""
        rows = []
        for row in shape:
            if row not in self._products:
                self._products[row] = tuple([least_greater(row, column) for column in self._columns])
            rows.append(self._products[row])
        return tuple(rows)


class MemberSearch:
    """Finds the members for the rows of a first format and the shapes of its letters, those of small patterns first."""

    def __init__(self, rows, shapes):
        # A way tells how a member is made: of a letter, of a member and a
        # factor behind it, or of the member that is repeated.
        self._ways = {}
        self._order = []
        self._sizes = {}
        self._waiting = []
        self._offers = 0
        self._factors = [[] for _ in rows]
        self._leading = [[] for _ in rows]
        for state, row in enumerate(rows):
            for letter in row:
                self._offer((state, row[letter], frozen(shapes[letter])), 1, (LETTER, letter))

    def _offer(self, member, size, way):
        """Put a member on the list of those that wait, if its pattern is smaller than the known ones."""
        if member not in self._sizes or size < self._sizes[member]:
            self._sizes[member] = size
            # The number of the offer keeps members of one size in the order of their offers.
            heappush(self._waiting, (size, self._offers, member, way))
            self._offers += 1

    def first_members(self, many):
        """Return the list of the members in the order in which they are found, at most so many of them."""
        while self._waiting and len(self._order) < many:
            size, _, member, way = heappop(self._waiting)
            if member not in self._ways:
                self._ways[member] = way
                self._order.append(member)
                self._leading[member[1]].append(member)
                self._follow(member, size)
        return self._order[:many]

    def _follow(self, member, size):
        """Offer what a new member makes of others and others of it."""
        start, end, shape = member
        if self._ways[member][0] != JOIN:
            factor = Factor(member, size)
            self._factors[start].append(factor)
            for before in self._leading[start]:
                self._join(before, factor)
        for factor in self._factors[end]:
            self._join(member, factor)
        if start == end and is_stable_shape(shape):
            grown = frozen(grown_shape(shape))
            if grown != shape:
                self._offer((start, end, grown), size + 1, (REPEAT, member))

    def _join(self, before, factor):
        """Offer the product of a member and a factor that begins where it ends."""
        joined = (before[0], factor.member[1], factor.times_from(before[2]))
        self._offer(joined, self._sizes[before] + factor.weight, (JOIN, before, factor.member))

    def all_members(self):
        """Return the list of all members in the order in which they are found."""
        while self._waiting:
            self.first_members(2 * len(self._order) + 1)
        return list(self._order)

    def finds(self, member):
        """Return whether this is a member; if it is, it has been found then."""
        while self._waiting and member not in self._ways:
            self.first_members(2 * len(self._order) + 1)
        return member in self._ways

    def pattern(self, member):
        """Return the pattern of a member that has been found."""
        items = []
        way = self._ways[member]
        while way[0] == JOIN:
            items.append(self._item(self._ways[way[2]]))
            way = self._ways[way[1]]
        items.append(self._item(way))
        return items[::-1]

    def _item(self, way):
        """Return the item of a factor that is made in this way."""
        if way[0] == LETTER:
            return way[1]
        return (REPEAT, self.pattern(way[1]))


def frozen(shape):
    """Return a shape as a tuple of tuples."""
    return tuple([tuple(row) for row in shape])
