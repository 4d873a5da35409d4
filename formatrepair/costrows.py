"""Cost rows: what it costs to lead a second format along with the texts of a first one.

The cost row of a text is a tuple with an item for each state of the second
format: the least cost of a script from the text to one that leads the
second format from 0 to this state, or None.
"""

from formatrepair.costs import is_cheaper
from formatrepair.excess import excess_matrices

MANY = 1000


class StepCosts:
    """What a reader needs to know of two formats; it never changes.

    The first format is given by its table and the second one by its
    accepting states, the matrices of the empty text and of the letters, and
    the needs: the least costs of what follows, for each two states.
    """

    def __init__(self, first, ends, insertions, steps, needs):
        self.first_table = first
        self.goals = ends
        self.opening = insertions[0] if insertions else []
        self.moves = {letter: priced_moves(steps[letter]) for letter in steps}
        self.needs = needs
        self.excess = excess_matrices(first, ends, self.moves, needs)


def priced_moves(matrix):
    """Return for each row of a cost matrix the list of the places and the items that are not None."""
    return [[(place, item) for place, item in enumerate(row) if item is not None] for row in matrix]


class RowReader:
    """Reads the texts of a first format, letter by letter, into cost rows.

    In its rows an item is None if nothing that costs at most the cutoff goes
    on from it, or nothing that does not go on from another item as cheaply.
    """

    def __init__(self, known, cutoff):
        self.first_rows, self._accepting = known.first_table
        self._known = known
        self._cutoff = cutoff

    def start_row(self):
        """Return the row of the empty text, whatever may follow."""
        return self._known.opening

    def first_row(self):
        """Return the row of the empty text."""
        return self._cut(0, self.start_row())

    def next_row(self, row, letter, state):
        """Return the row behind a letter that leads the first format to the state."""
        return self._cut(state, self.stepped(row, letter))

    def stepped(self, row, letter):
        """Return the row behind a letter, whatever may follow."""
        found = [None for _ in row]
        moves = self._known.moves[letter]
        for here, cost in enumerate(row):
            if cost is not None:
                for there, price in moves[here]:
                    if found[there] is None or cost + price < found[there]:
                        found[there] = cost + price
        return found

    def _cut(self, state, row):
        """Return a row with None for the items that are worth nothing at the state."""
        needs = self._known.needs[state]
        excess = self._known.excess[state]
        kept = [cost if self._is_enough(cost, need) else None for cost, need in zip(row, needs)]
        for there, cost in enumerate(list(kept)):
            if cost is not None and is_replaced(kept, excess, there):
                kept[there] = None
        return tuple(kept)

    def _is_enough(self, cost, need):
        """Return whether something goes on from a cost within the cutoff."""
        return cost is not None and need is not None and (self._cutoff is None or cost + need <= self._cutoff)

    def is_end(self, state):
        """Return whether a text of the first format may end at the state."""
        return state in self._accepting

    def end_cost(self, row):
        """Return the cost of the text of a row that ends there, or None if it is beyond the cutoff."""
        return min([row[end] for end in self._known.goals if row[end] is not None], default=None)

    def situations(self, text):
        """Return the list of the states and the rows before, between and behind the letters of a text."""
        state = 0
        row = self.first_row()
        found = [(state, row)]
        for letter in text:
            state = self.first_rows[state][letter]
            row = self.next_row(row, letter, state)
            found.append((state, row))
        return found

    def cost_of(self, text):
        """Return the cost of a text of the first format."""
        _, row = self.situations(text)[-1]
        return self.end_cost(row)


def is_replaced(row, excess, there):
    """Return whether whatever goes on from an item of a row goes on as cheaply from another one."""
    for here, cost in enumerate(row):
        if here != there and cost is not None and excess[here][there] is not None:
            if cost + excess[here][there] <= row[there]:
                return True
    return False


def split_row(row):
    """Return the least item of a cost row, or 0, and the row less this item."""
    least = min([cost for cost in row if cost is not None], default=0)
    return least, tuple([None if cost is None else cost - least for cost in row])


def covers(greater, row):
    """Return whether no item of a cost row is greater than the one at its place in the greater row."""
    for most, cost in zip(greater, row):
        if is_cheaper(most, cost):
            return False
    return True


class BeyondSearch:
    """Looks for the first text that costs more than the cutoff of a reader.

    Texts are read in their order. A text is not read on if an earlier one
    leads to the same state and costs at least as much at every place: what
    follows is beyond the cutoff for the earlier text first.
    """

    def __init__(self, reader):
        self._reader = reader
        self._read = []
        self._place = 0
        self._greatest = [[] for _ in reader.first_rows]
        self._beyond = None
        self._add(0, reader.first_row(), None, "")

    def run(self, many):
        """Read at most so many more texts and return whether the search has ended."""
        for _ in range(many):
            if self._place == len(self._read) or self._beyond is not None:
                return True
            self._read_on()
        return False

    def _read_on(self):
        """Look at the next text and read each letter that may follow it."""
        number = self._place
        self._place += 1
        state, row, _, _ = self._read[number]
        if self._reader.is_end(state) and self._reader.end_cost(row) is None:
            self._beyond = self._text_of(number)
            return
        ways = self._reader.first_rows[state]
        for letter in ways:
            self._add(ways[letter], self._reader.next_row(row, letter, ways[letter]), number, letter)

    def _add(self, state, row, before, letter):
        """Put a text on the list of those that are read, if no earlier one covers it."""
        for greater in self._greatest[state]:
            if covers(greater, row):
                return
        self._greatest[state] = [other for other in self._greatest[state] if not covers(row, other)] + [row]
        self._read.append((state, row, before, letter))

    def _text_of(self, number):
        """Return the text with a number on the list of those that are read."""
        letters = []
        while number is not None:
            _, _, number, letter = self._read[number]
            letters.append(letter)
        return "".join(letters[::-1])

    def found(self):
        """Return the text that was found, or None if there is none beyond the cutoff."""
        return self._beyond

    def table(self):
        """Return the table of bounds that shows that no text is beyond the cutoff."""
        return [(state, list(row)) for state, rows in enumerate(self._greatest) for row in rows]

    def greatest_end_cost(self):
        """Return the greatest cost of a text if none is beyond the cutoff."""
        ends = [state for state in range(len(self._greatest)) if self._reader.is_end(state)]
        return max([self._reader.end_cost(row) for state in ends for row in self._greatest[state]])


def ended_search(reader):
    """Return a search that has ended."""
    search = BeyondSearch(reader)
    while not search.run(MANY):
        pass
    return search
