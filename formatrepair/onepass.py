"""Repair letter by letter: how much has to be paid if nobody knows what follows."""

from formatrepair.basics import is_index, is_integer, is_letter, is_list, require_integer
from formatrepair.comparisons import require_comparison
from formatrepair.costrows import priced_moves
from formatrepair.costs import cost_sum, is_cheaper, is_cost
from formatrepair.errors import EmptyFormat, InvalidInteger, InvalidList, InvalidOnePass
from formatrepair.games import Rules, best_plan, best_strategy, game_values
from formatrepair.searches import format_table
from formatrepair.tables import shortest_way

START = (0, 0)


class OnePass:
    """The game of repair letter by letter for a comparison; what it answers never changes."""

    def __init__(self, comparison):
        require_comparison(comparison)
        second = comparison.second()
        if second.is_empty():
            raise EmptyFormat()
        self._comparison = comparison
        ends = second.accepting()
        end_costs = [min([row[end] for end in ends if row[end] is not None], default=None)
                     for row in comparison.insertions()]
        matrices = comparison.letter_matrices()
        moves = {letter: priced_moves(matrices[letter]) for letter in matrices}
        self._rules = Rules(format_table(comparison.first()), moves, end_costs)
        self._values = game_values(self._rules)
        self._least = self._values.get(START)

    def comparison(self):
        """Return the comparison."""
        return self._comparison

    def end_costs(self):
        """Return the list of the end costs of the states of the second format."""
        return self._rules.all_end_costs()

    def __eq__(self, other):
        return isinstance(other, OnePass) and self._comparison == other._comparison

    @property
    def least_cost(self):
        """The least number that somebody can be sure not to exceed, or None."""
        return self._least

    def strategy(self, number):
        """Return a strategy by which nobody pays more than the number, or None."""
        require_integer(number, 0, None)
        if self._least is None or self._least > number:
            return None
        return best_strategy(self._rules, self._values)

    def plan(self, number):
        """Return a plan by which everybody pays more than the number, or more than any number for None, or None."""
        require_limit(number)
        if self._least is not None and (number is None or self._least <= number):
            return None
        return best_plan(self._rules, self._values)

    def decision(self):
        """Return the least cost with a strategy for it, or a plan that shows that there is none."""
        if self._least is None:
            return ("unbounded", self.plan(None))
        return ("bounded", self._least, self.strategy(self._least))

    def rules(self):
        """Return the rules of the game."""
        return self._rules


def require_one_pass(value):
    """Raise InvalidOnePass if the value is not a OnePass object."""
    if not isinstance(value, OnePass):
        raise InvalidOnePass(value)


def require_limit(value):
    """Raise InvalidInteger if the value is neither None nor an integer of at least 0."""
    if value is not None:
        require_integer(value, 0, None)


def is_position(state, here, game):
    """Return whether two values are the states of a position."""
    return is_index(state, game.comparison().first().size) and is_index(here, game.comparison().second().size)


def is_strategy(game, value):
    """Return whether the value is a list of entries of a strategy with different positions."""
    if not is_list(value) or not all([is_strategy_entry(game, entry) for entry in value]):
        return False
    return len({entry[:2] for entry in value}) == len(value)


def is_strategy_entry(game, value):
    """Return whether the value is a tuple of a position, a bound and a dict from letters to states."""
    if not isinstance(value, tuple) or len(value) != 4:
        return False
    state, here, bound, steps = value
    if not is_position(state, here, game) or not is_natural(bound) or not isinstance(steps, dict):
        return False
    size = game.comparison().second().size
    return all([is_letter(letter) and is_index(steps[letter], size) for letter in steps])


def is_natural(value):
    """Return whether the value is an integer of at least 0."""
    return is_integer(value) and value >= 0


def first_strategy_error(game, cost, strategy):
    """Return None if nobody who follows the strategy pays more than the cost, and otherwise its first error."""
    require_one_pass(game)
    require_integer(cost, 0, None)
    if not is_strategy(game, strategy):
        raise InvalidList(strategy)
    rules = game.rules()
    bounds = {(state, here): bound for state, here, bound, _ in strategy}
    if is_cheaper(cost, bounds.get(START)):
        return ("start",)
    for number, (state, here, bound, steps) in enumerate(strategy):
        if [end for end in rules.ends((state, here)) if is_cheaper(bound, end)]:
            return ("end", number)
        for letter, ways in rules.ways((state, here)):
            good = [behind for behind, price in ways if behind[1] == steps.get(letter)
                    and behind in bounds and bounds[behind] + price <= bound]
            if not good:
                return ("letter", number, letter)
    return None


def is_plan(game, value):
    """Return whether the value is a list of entries of a plan."""
    return is_list(value) and all([is_plan_entry(game, entry) for entry in value])


def is_plan_entry(game, value):
    """Return whether the value is a tuple of a position, a number or None, a rank and a move."""
    if not isinstance(value, tuple) or len(value) != 5:
        return False
    state, here, left, rank, move = value
    if not is_position(state, here, game) or not is_cost(left) or not is_natural(rank):
        return False
    return move is None or is_letter(move)


def first_plan_error(game, cost, plan):
    """Return None if the plan shows that nobody is sure to pay at most the cost, and otherwise its first error."""
    require_one_pass(game)
    require_limit(cost)
    if not is_plan(game, plan):
        raise InvalidList(plan)
    claims = claims_of(plan)
    if next_claim(claims, START, cost, None) is None:
        return ("start",)
    for number, entry in enumerate(plan):
        error = entry_error(game.rules(), claims, entry)
        if error:
            return (error[0], number) + error[1:]
    return None


def claims_of(plan):
    """Return a dict from the positions of a plan to the lists of their entries."""
    claims = {}
    for entry in plan:
        claims.setdefault(entry[:2], []).append(entry)
    return claims


def next_claim(claims, position, left, rank):
    """Return the first entry of a position that claims as much and has a smaller rank, None being any, or None."""
    for entry in claims.get(position, []):
        if not is_cheaper(entry[2], left) and (rank is None or entry[3] < rank):
            return entry
    return None


def entry_error(rules, claims, entry):
    """Return the first error of an entry of a plan without its number, or the empty tuple."""
    state, here, left, rank, move = entry
    if move is None:
        costs = rules.ends((state, here))
        if not costs or (costs[0] is not None and not is_cheaper(left, costs[0])):
            return ("end",)
        return ()
    if rules.state_behind(state, move) is None:
        return ("move",)
    for behind, price in rules.steps((state, here), move):
        if not is_cheaper(left, price) and claim_behind(claims, entry, behind, price) is None:
            return ("step", behind[1])
    return ()


def claim_behind(claims, entry, behind, price):
    """Return the first entry that goes on from an entry behind a step, or None."""
    left = None if entry[2] is None else entry[2] - price
    return next_claim(claims, behind, left, entry[3] if price == 0 else None)


def force(game, cost, plan, answer):
    """Return a text for which who answers like this pays more than the cost, and what is paid, or None."""
    require_one_pass(game)
    require_integer(cost, 0, None)
    if first_plan_error(game, cost, plan) is not None:
        raise InvalidList(plan)
    rules = game.rules()
    claims = claims_of(plan)
    entry = next_claim(claims, START, cost, None)
    text, position, paid = "", START, 0
    while entry is not None and entry[4] is not None:
        before = paid
        text, position, paid = played(rules, (text, position, paid), entry[4], answer)
        if paid is None or paid > cost:
            entry = None
        else:
            entry = claim_behind(claims, entry, position, paid - before)
    if entry is None:
        for letter in shortest_way(rules.letter_table(), position[0]):
            text, position, paid = played(rules, (text, position, paid), letter, answer)
    return text, cost_sum(paid, rules.ends(position)[0])


def played(rules, situation, letter, answer):
    """Return the text, the position and what was paid behind one more letter."""
    text, position, paid = situation
    steps = rules.steps(position, letter)
    if paid is None or not steps:
        # Nobody can pay any more, so only the first format goes on.
        return text + letter, (rules.state_behind(position[0], letter), position[1]), None
    chosen = answer(text, letter)
    for behind, price in steps:
        if is_integer(chosen) and behind[1] == chosen:
            return text + letter, behind, paid + price
    raise InvalidInteger(chosen)
