"""Formats: sets of texts, each kept as its smallest table."""

from formatrepair.basics import is_index, is_letter, require_text
from formatrepair.errors import InvalidFormat, InvalidInteger, InvalidLetter, InvalidList
from formatrepair.errors import InvalidTable, UnknownName
from formatrepair.expressions import parse_expression, require_tree, words_of
from formatrepair.nets import joined_nets, maybe_net, some_net, table_net, table_of, tree_net
from formatrepair.tables import are_states, has_circle, is_rows, paired_table, smallest_table


class Format:
    """The set of all texts that a state table accepts; it never changes."""

    def __init__(self, rows, accepting):
        if not is_rows(rows):
            raise InvalidTable(rows)
        if not are_states(accepting, rows):
            raise InvalidList(accepting)
        smallest, ends = smallest_table(rows, accepting)
        self._rows = smallest
        self._accepting = ends

    @classmethod
    def of_tree(cls, tree):
        """Return the format of the texts that a tree stands for."""
        require_tree(tree)
        names = words_of(tree, "name")
        if names:
            raise UnknownName(names[0])
        rows, accepting = table_of(tree_net(tree))
        return cls(rows, accepting)

    @classmethod
    def parse(cls, text):
        """Return the format of the texts that an expression stands for."""
        return cls.of_tree(parse_expression(text))

    def rows(self):
        """Return the rows of the smallest table, dicts from letters to states."""
        return [{letter: row[letter] for letter in row} for row in self._rows]

    def accepting(self):
        """Return the list of the accepting states of the smallest table."""
        return list(self._accepting)

    @property
    def size(self):
        """The number of states of the smallest table."""
        return len(self._rows)

    def letters(self):
        """Return the list of the letters in the smallest table."""
        return sorted({letter for row in self._rows for letter in row})

    def is_empty(self):
        """Return whether the format has no text."""
        return len(self._rows) == 0

    def is_finite(self):
        """Return whether the format has finitely many texts, or none."""
        return not has_circle(self._rows)

    def next_state(self, state, letter):
        """Return the state that a letter leads to, or None."""
        if not is_index(state, len(self._rows)):
            raise InvalidInteger(state)
        if not is_letter(letter):
            raise InvalidLetter(letter)
        return self._rows[state].get(letter)

    def contains(self, text):
        """Return whether a text is in the format."""
        require_text(text)
        return not self.is_empty() and self.state_after(text) in self._accepting

    def __contains__(self, text):
        return self.contains(text)

    def state_after(self, text, *, start=0):
        """Return the state that a text leads to from the start, or None."""
        require_text(text)
        if not is_index(start, len(self._rows)):
            raise InvalidInteger(start)
        state = start
        for letter in text:
            if letter not in self._rows[state]:
                return None
            state = self._rows[state][letter]
        return state

    def __eq__(self, other):
        return isinstance(other, Format) and self._rows == other._rows and self._accepting == other._accepting

    def _paired(self, other):
        """Return a table that reads both formats at once, as paired_table does."""
        require_format(other)
        return paired_table(self._rows, self._accepting, other._rows, other._accepting)

    def __or__(self, other):
        rows, answers = self._paired(other)
        return Format(rows, [state for state, (here, there) in enumerate(answers) if here or there])

    def __and__(self, other):
        rows, answers = self._paired(other)
        return Format(rows, [state for state, (here, there) in enumerate(answers) if here and there])

    def __sub__(self, other):
        rows, answers = self._paired(other)
        return Format(rows, [state for state, (here, there) in enumerate(answers) if here and not there])

    def union(self, other):
        """Return the format of the texts that are in at least one of both."""
        return self | other

    def intersection(self, other):
        """Return the format of the texts that are in both."""
        return self & other

    def difference(self, other):
        """Return the format of the texts of this one that are not in the other one."""
        return self - other

    def is_within(self, other):
        """Return whether every text of this format is in the other one."""
        _, answers = self._paired(other)
        return not any([here and not there for here, there in answers])

    def followed_by(self, other):
        """Return the format of the texts of this one joined with a text of the other one."""
        require_format(other)
        one = table_net(self._rows, self._accepting)
        rows, accepting = table_of(joined_nets(one, table_net(other._rows, other._accepting)))
        return Format(rows, accepting)

    def repeated(self):
        """Return the format of the texts of this one joined any number of times, also not at all."""
        one = table_net(self._rows, self._accepting)
        rows, accepting = table_of(maybe_net(some_net(one)))
        return Format(rows, accepting)


def require_format(value):
    """Raise InvalidFormat if the value is not a Format."""
    if not isinstance(value, Format):
        raise InvalidFormat(value)
