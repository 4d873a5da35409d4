"""The game of repair letter by letter: its rules, the values of its positions, and how both sides play.

A position is a pair of a state of the first format and a state of the
second one. Its value is the least number that the repairer can be sure not
to exceed from there, or None.
"""

from formatrepair.costs import cost_sum, is_cheaper


class Rules:
    """What may happen at the positions of a comparison; it never changes."""

    def __init__(self, first, moves, end_costs):
        # First is the table of the first format. The moves are for each
        # letter and state the next states with their prices.
        self._letter_rows, self._finals = first
        self._moves = moves
        self._end_costs = end_costs

    def positions(self):
        """Return the list of all positions in ascending order."""
        return [(state, here) for state in range(len(self._letter_rows)) for here in range(len(self._end_costs))]

    def state_behind(self, state, letter):
        """Return the state of the first format behind a letter, or None."""
        return self._letter_rows[state].get(letter)

    def steps(self, position, letter):
        """Return the positions that the repairer can choose for a letter, each with its price, in ascending order."""
        state, here = position
        behind = self._letter_rows[state][letter]
        return [((behind, there), price) for there, price in self._moves[letter][here]]

    def ways(self, position):
        """Return the list of the letters that may arrive, each with its steps."""
        return [(letter, self.steps(position, letter)) for letter in self._letter_rows[position[0]]]

    def ends(self, position):
        """Return a list with the end cost of a position, without items if no text ends there."""
        state, here = position
        return [self._end_costs[here]] if state in self._finals else []

    def all_end_costs(self):
        """Return the list of the end costs of the states of the second format."""
        return list(self._end_costs)

    def letter_table(self):
        """Return the table of the first format."""
        return self._letter_rows, self._finals


def game_values(rules):
    """Return a dict from the positions to their values, without those that have none."""
    values = {}
    level = next_level(rules, values, -1)
    while level is not None:
        for position in kept_within(rules, values, level):
            values[position] = level
        level = next_level(rules, values, level)
    return values


def next_level(rules, values, level):
    """Return the next number behind the level that may be the value of a position that has none yet, or None."""
    numbers = [0]
    for position in rules.positions():
        if position not in values:
            numbers.extend([end for end in rules.ends(position) if end is not None])
            for _, steps in rules.ways(position):
                numbers.extend([price + values[behind] for behind, price in steps if behind in values])
    return min([number for number in numbers if number > level], default=None)


def kept_within(rules, values, level):
    """Return the positions without a value from which the repairer is sure not to exceed the level.

    All lower values are known. Who always finds a step that costs nothing
    among these positions is sure, too.
    """
    kept = [position for position in rules.positions()
            if position not in values and not [end for end in rules.ends(position) if is_cheaper(level, end)]]
    many = len(kept) + 1
    while len(kept) < many:
        many = len(kept)
        known = {position: True for position in kept}
        kept = [position for position in kept if is_kept(rules, values, level, known, position)]
    return kept


def is_kept(rules, values, level, known, position):
    """Return whether each letter has a step that costs nothing to a known position, or that keeps within the level."""
    for _, steps in rules.ways(position):
        good = [behind for behind, price in steps if (price == 0 and behind in known)
                or (behind in values and price + values[behind] <= level)]
        if not good:
            return False
    return True


def best_strategy(rules, values):
    """Return the strategy by which nobody exceeds the value of any position that has one."""
    return [(position[0], position[1], values[position], best_steps(rules, values, position))
            for position in rules.positions() if position in values]


def best_steps(rules, values, position):
    """Return a dict from the letters to the states to go to for them."""
    chosen = {}
    for letter, steps in rules.ways(position):
        costs = [(price + values[behind], behind[1]) for behind, price in steps if behind in values]
        chosen[letter] = min(costs)[1]
    return chosen


def best_plan(rules, values):
    """Return the plan that forces everybody to reach the value of any position that is not 0."""
    plan = []
    ranks = {}
    waiting = [position for position in rules.positions() if values.get(position) != 0]
    rank = 0
    while waiting:
        moves = {position: forcing_moves(rules, values, ranks, position) for position in waiting}
        for position in waiting:
            if moves[position]:
                value = values.get(position)
                left = None if value is None else value - 1
                plan.append((position[0], position[1], left, rank, moves[position][0]))
                ranks[position] = rank
        waiting = [position for position in waiting if position not in ranks]
        rank += 1
    return plan


def forcing_moves(rules, values, ranks, position):
    """Return the moves that force the value of a position, when only ranked positions are reached for nothing."""
    value = values.get(position)
    moves = [None for end in rules.ends(position) if not is_cheaper(end, value)]
    for letter, steps in rules.ways(position):
        escapes = [behind for behind, price in steps if (price == 0 and behind not in ranks)
                   or is_cheaper(cost_sum(price, values.get(behind)), value)]
        if not escapes:
            moves.append(letter)
    return moves
