"""Comparisons: what it costs at most to repair a text of one format into another format."""

from formatrepair.basics import is_index, is_text
from formatrepair.costrows import RowReader, StepCosts
from formatrepair.decisions import copied_decision, decided
from formatrepair.errors import EmptyFormat, InvalidComparison, InvalidMember, NotStable, TooMany
from formatrepair.matrices import GROWING, cost_matrix, is_shape, shape_of
from formatrepair.members import MemberSearch, frozen
from formatrepair.patterns import is_pattern, pattern_end, pattern_shape
from formatrepair.prices import require_format_over, require_prices
from formatrepair.searches import format_table, least_costs

MOST_FIRST = 12
MOST_SECOND = 6


class Comparison:
    """A comparison of two formats; what it answers never changes."""

    def __init__(self, prices, first, second):
        require_prices(prices)
        require_format_over(prices, first)
        require_format_over(prices, second)
        if first.is_empty():
            raise EmptyFormat()
        if first.size > MOST_FIRST:
            raise TooMany(first.size)
        if second.size > MOST_SECOND:
            raise TooMany(second.size)
        self._prices = prices
        self._first = first
        self._second = second
        self._insertions = cost_matrix(prices, second, "")
        self._steps = {letter: cost_matrix(prices, second, letter) for letter in first.letters()}
        self._needs = least_costs(prices, format_table(first), format_table(second))
        self._search = MemberSearch(first.rows(), {letter: shape_of(self._steps[letter]) for letter in self._steps})
        self._known = None
        self._answer = None

    def prices(self):
        """Return the price table."""
        return self._prices

    def first(self):
        """Return the first format."""
        return self._first

    def second(self):
        """Return the second format."""
        return self._second

    def __eq__(self, other):
        return (isinstance(other, Comparison) and self._prices == other._prices and self._first == other._first
                and self._second == other._second)

    def insertions(self):
        """Return the matrix of the empty text; nobody modifies it."""
        return self._insertions

    def letter_matrices(self):
        """Return a dict from the letters of the first format to their matrices; nobody modifies it."""
        return self._steps

    def reader(self, cutoff):
        """Return a reader of the texts of the first format with a cutoff, or None for no cutoff."""
        if self._known is None:
            self._known = StepCosts(format_table(self._first), self._second.accepting(), self._insertions, self._steps,
                                    self._needs)
        return RowReader(self._known, cutoff)

    def free_reader(self):
        """Return a reader for which every cost that is not None is 0."""
        steps = {letter: freed(self._steps[letter]) for letter in self._steps}
        known = StepCosts(format_table(self._first), self._second.accepting(), freed(self._insertions), steps,
                          freed(self._needs))
        return RowReader(known, None)

    def members(self):
        """Return the list of the members in ascending order."""
        return [(start, end, [list(row) for row in shape]) for start, end, shape in sorted(self._search.all_members())]

    def pattern_of(self, member):
        """Return a pattern that leads from the start of a member to its end and has its shape."""
        if not is_member_form(member):
            raise InvalidMember(member)
        start, end, shape = member
        sought = (start, end, frozen(shape))
        if not self._search.finds(sought):
            raise InvalidMember(member)
        return self._search.pattern(sought)

    def decision(self):
        """Return whether and how far the texts of the first format can be repaired, with a certificate."""
        if self._answer is None:
            self._answer = decided(self, self._search)
        return copied_decision(self._answer)

    def is_impossible(self, value):
        """Return whether the value is a text of the first format that cannot be repaired."""
        if not is_text(value) or not self._first.contains(value):
            return False
        return self.reader(None).cost_of(value) is None

    def is_unbounded(self, value):
        """Return whether the value is a pattern that shows that texts of the first format cost more and more."""
        if not is_pattern(value) or not self._ends_well(pattern_end(self._first, value)):
            return False
        try:
            shape = pattern_shape(self._prices, self._second, value)
        except NotStable:
            return False
        return self._is_growing(shape)

    def shows_growth(self, member):
        """Return whether the pattern of a member shows that texts of the first format cost more and more."""
        start, end, shape = member
        return start == 0 and self._ends_well(end) and self._is_growing(shape)

    def _ends_well(self, state):
        """Return whether a state, or None, is an accepting state of the first format."""
        return state in self._first.accepting()

    def _is_growing(self, shape):
        """Return whether the texts of a pattern with the shape cost more and more."""
        return min([shape[0][end] for end in self._second.accepting()], default=None) == GROWING


def require_comparison(value):
    """Raise InvalidComparison if the value is not a Comparison."""
    if not isinstance(value, Comparison):
        raise InvalidComparison(value)


def freed(matrix):
    """Return a cost matrix with 0 in the place of each greater integer."""
    return [[None if item is None else 0 for item in row] for row in matrix]


def is_member_form(value):
    """Return whether the value is a tuple of two integers and a shape."""
    if not isinstance(value, tuple) or len(value) != 3:
        return False
    return is_index(value[0], MOST_FIRST) and is_index(value[1], MOST_FIRST) and is_shape(value[2])
