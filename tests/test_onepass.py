"""Tests of [111] to [114]: the game of repair letter by letter, its strategies and plans."""

import copy
from collections import Counter
from random import Random

from formatrepair.comparisons import Comparison
from formatrepair.errors import EmptyFormat, InvalidComparison, InvalidInteger, InvalidList, InvalidOnePass
from formatrepair.formats import Format
from formatrepair.matrices import insertion_matrix, letter_matrix
from formatrepair.onepass import OnePass, first_plan_error, first_strategy_error
from formatrepair.prices import Prices

from drawn import drawn_cases
from support import Case, lists_in, not_integers, other_values, with_tuples
from test_bounds import not_comparisons
from test_comparisons import ONE, PAIRS

PLAN = [(0, 0, 1, 2, "a"), (1, 0, 0, 1, "b"), (0, 1, 0, 0, None), (1, 1, 0, 0, "b")]
HUGE = 10 ** 30 - 1


def example():
    return OnePass(Comparison(ONE, Format.parse("(ab)*"), Format.parse("(ba)*")))


def not_games():
    return [*other_values(), "a", 0, OnePass, example().comparison()]


def endless(cost):
    return 10 ** 40 if cost is None else cost


class Known:
    """What the document calls the prices and the end costs of a game."""

    def __init__(self, game):
        comparison = game.comparison()
        self.rows, self.finals = comparison.first().rows(), comparison.first().accepting()
        second, prices = comparison.second(), comparison.prices()
        self.states = range(second.size)
        self.prices = {letter: letter_matrix(prices, second, letter) for letter in comparison.first().letters()}
        ends = [[row[j] for j in second.accepting() if row[j] is not None] for row in insertion_matrix(prices, second)]
        self.ends = [min(row, default=None) for row in ends]


def strategy_error(game, cost, strategy):
    """Return the first error of a strategy, as the document tells."""
    known = Known(game)
    if not any((p, i) == (0, 0) and bound <= cost for p, i, bound, _ in strategy):
        return ("start",)
    for number, (p, i, bound, steps) in enumerate(strategy):
        if p in known.finals and endless(known.ends[i]) > bound:
            return ("end", number)
        for letter, q in sorted(known.rows[p].items()):
            j = steps.get(letter)
            if j is None or not any((other, there) == (q, j) and more + endless(known.prices[letter][i][j]) <= bound
                                    for other, there, more, _ in strategy):
                return ("letter", number, letter)
    return None


def plan_error(game, cost, plan):
    """Return the first error of a plan, as the document tells."""
    known = Known(game)
    if not any((p, i) == (0, 0) and endless(left) >= endless(cost) for p, i, left, _, _ in plan):
        return ("start",)
    for number, (p, i, left, rank, move) in enumerate(plan):
        if move is None:
            if p not in known.finals or (known.ends[i] is not None and known.ends[i] <= endless(left)):
                return ("end", number)
            continue
        if move not in known.rows[p]:
            return ("move", number)
        for j in known.states:
            price = known.prices[move][i][j]
            if price is None or price > endless(left):
                continue
            least = None if left is None else left - price
            if not any((q, there) == (known.rows[p][move], j) and endless(other) >= endless(least) and (price or lower < rank)
                       for q, there, other, lower, _ in plan):
                return ("step", number, j)
    return None


def values_of(game, most):
    """Return what the repairer must expect from each position after more and more letters, None above a number."""
    known = Known(game)
    values = {(p, i): 0 for p in range(len(known.rows)) for i in known.states}
    while True:
        after = {}
        for p, i in values:
            worst = [endless(known.ends[i])] if p in known.finals else [0]
            for letter, q in known.rows[p].items():
                worst.append(min([endless(known.prices[letter][i][j]) + values[q, j] for j in known.states]))
            after[p, i] = max(worst) if max(worst) <= most else 10 ** 40
        if after == values:
            return {position: None if value >= 10 ** 40 else value for position, value in values.items()}
        values = after


def games(seed, many, **named):
    return [OnePass(Comparison(*case)) for case in drawn_cases(seed, many, **named)]


def changed(random, entries, changes):
    """Return the entries and others like them, with one thing otherwise at each place."""
    found = [entries, entries[::-1], entries[1:], entries[:-1], []]
    for number, entry in enumerate(entries):
        found.append(entries[:number] + entries[number + 1:])
        for place, value in changes(entry):
            other = entry[:place] + (value,) + entry[place + 1:]
            found.append(entries[:number] + [other] + entries[number + 1:])
    return found


class Made(Case):

    def test_example(self):
        game = example()
        found = [game.end_costs(), first_plan_error(game, 1, PLAN), first_plan_error(game, 2, PLAN), first_plan_error(game, 1, PLAN[:2])]
        self.assertEqual(found, [[0, 1], None, ("start",), ("step", 0, 1)])
        found = [game.least_cost, game.strategy(1), first_strategy_error(game, 2, game.strategy(2)), game.plan(2)]
        self.assertEqual(found, [2, None, None, None])

    def test_what_was_passed(self):
        comparison = Comparison(ONE, PAIRS, Format.parse("a*"))
        game = OnePass(comparison=comparison)
        self.assertIs(game.comparison(), comparison)
        self.assertIs(type(repr(game)), str)
        game.end_costs().clear()
        self.assertEqual(game.end_costs(), [0])

    def test_end_costs(self):
        for game in games(111, 40):
            self.assertEqual(game.end_costs(), Known(game).ends)
        none = OnePass(Comparison(Prices("ab", {}), Format.parse("a*"), Format.parse("ab")))
        self.assertEqual(none.end_costs(), [None, None, 0])

    def test_equality(self):
        same = OnePass(Comparison(Prices("ba", {}, default=1), Format([{"a": 1}, {"b": 0}, {}], [0]), Format.parse("(ba)*")))
        self.assertIs(example() == same, True)
        self.assertIs(example() != same, False)
        for other in (OnePass(Comparison(ONE, PAIRS, PAIRS)), example().comparison(), *other_values()):
            self.assertIs(example() == other, False)

    def test_exceptions(self):
        for value in not_comparisons():
            self.assert_raises(InvalidComparison, value, OnePass, value)
        with self.assertRaises(EmptyFormat):
            OnePass(Comparison(ONE, PAIRS, Format.parse("0")))

    def test_the_property_is_not_assigned(self):
        with self.assertRaises(AttributeError):
            example().least_cost = 1


class Strategies(Case):

    def test_first_errors(self):
        game = example()
        good = game.strategy(2)
        for strategy, cost, error in (([], 9, ("start",)), (good, 1, ("start",)), (good, 2, None), (good, HUGE, None),
                                      ([(0, 0, 5, {})], 4, ("start",)), ([(0, 0, 5, {})], 5, ("letter", 0, "a")),
                                      ([(0, 1, 0, {}), (0, 0, 5, {"a": 0})], 5, ("end", 0)),
                                      ([(0, 1, 1, {}), (0, 0, 5, {"a": 0})], 5, ("letter", 0, "a")),
                                      ([(0, 0, 5, {"a": 1, "z": 0, "b": 1}), (1, 1, 4, {"b": 0})], 5, ("letter", 1, "b")),
                                      ([(0, 0, 5, {"a": 0}), (1, 0, 4, {"b": 0})], 5, ("letter", 1, "b"))):
            self.assertEqual(first_strategy_error(game, cost, strategy), error)
            self.assertEqual(strategy_error(game, cost, strategy), error)
            self.assertEqual(first_strategy_error(strategy=with_tuples(strategy), cost=cost, game=game), error)

    def changes(self, entry):
        p, i, bound, steps = entry
        found = [(2, bound - 1), (2, bound + 1), (2, 0), (2, HUGE), (1, 0), (1, 1), (0, 0), (3, {})]
        for letter in steps:
            found += [(3, {**steps, letter: 0}), (3, {**steps, letter: 1}), (3, {key: steps[key] for key in steps if key != letter})]
        return [(place, value) for place, value in [*found, (3, {**steps, "z": 0, "a": 0})] if value != -1]

    def test_one_thing_otherwise_at_each_place(self):
        random = Random(112)
        seen = Counter()
        for game in games(112, 60, sizes=((1, 3), (2, 3))):
            least = game.least_cost
            if least is None:
                continue
            for strategy in changed(random, game.strategy(least), self.changes):
                if len({entry[:2] for entry in strategy}) < len(strategy):
                    self.assert_raises(InvalidList, strategy, first_strategy_error, game, least, strategy)
                    seen["twice"] += 1
                    continue
                for cost in {0, least, least + 1}:
                    error = first_strategy_error(game, cost, strategy)
                    self.assertEqual(error, strategy_error(game, cost, strategy))
                    seen[error and error[0]] += 1
        self.assertGreater(min(seen[kind] for kind in ("start", "letter", "end", None, "twice")), 20)

    def test_strategies_of_another_form(self):
        game = example()
        wrong = [value for value in other_values() if value not in ([], ())]
        wrong += [{}, "ab", (0, 0, 2, {}), [[0, 0, 2, {}]], [(0, 0, 2)], [(0, 0, 2, {}, 0)], [((0, 0), 2, {})], [(0, 0, 2, {}), (0, 0, 2, {})],
                  [(0, 0, 1, {}), (1, 0, 1, {}), (0, 0, 3, {"a": 0})], [()], [None]]
        for place, values in ((0, (2, -1, True, None, "0", HUGE, [0])), (1, (2, -1, False, None, "0", HUGE)),
                              (2, (-1, None, True, "1", [1], -HUGE)),
                              (3, (None, [], (), "ab", [("a", 0)], {"a": 2}, {"a": -1}, {"a": None}, {"a": True}, {"ab": 0}, {"": 0},
                                   {"A": 0}, {0: 0}, {("a",): 0}, {"a": "0"}, {"a": 0, "b": HUGE}, {"a": [0]}))):
            for value in values:
                entry = (1, 1, 2, {"b": 0})
                other = entry[:place] + (value,) + entry[place + 1:]
                wrong += [[other], [(0, 0, 2, {"a": 0}), other], [other, (0, 0, 2, {})]]
        for value in wrong:
            self.assert_raises(InvalidList, value, first_strategy_error, game, 2, value)

    def test_order_of_the_exceptions(self):
        faults = [(0, value, InvalidOnePass, value) for value in not_games()]
        faults += [(1, value, InvalidInteger, value) for value in (-1, -HUGE, *not_integers())]
        faults += [(2, value, InvalidList, value) for value in (None, "a", [(0, 0, -1, {})], [0])]
        self.assert_faults(first_strategy_error, [example(), 0, []], faults)


class Plans(Case):

    def test_first_errors(self):
        game = example()
        for plan, cost, error in ((PLAN, 0, None), (PLAN, 1, None), (PLAN, None, ("start",)), ([], 0, ("start",)),
                                  (PLAN[1:], 0, ("start",)), ([(0, 0, 0, 0, None)], 0, ("end", 0)), ([(0, 1, 0, 0, None)] + PLAN, 1, None),
                                  ([(0, 1, 1, 0, None)] + PLAN, 1, ("end", 0)), (PLAN + [(1, 1, 0, 0, None)], 1, ("end", 4)),
                                  ([(0, 0, 1, 2, "b")] + PLAN, 1, ("move", 0)), ([(0, 0, 1, 2, "z")] + PLAN, 1, ("move", 0)),
                                  ([(0, 0, None, 9, "a")], None, ("step", 0, 0)), ([(0, 0, None, 9, "a")] + PLAN, 5, ("step", 0, 0)),
                                  ([(0, 1, None, 0, None)] + PLAN, 0, ("end", 0)), (PLAN[:1] + [(1, 0, 0, 2, "b")] + PLAN[2:], 1, None),
                                  (PLAN[:1] + [(1, 0, 0, 0, "b")] + PLAN[2:], 1, ("step", 1, 1)),
                                  ([(0, 0, 0, 2, "a")] + PLAN[1:], 1, ("start",)), ([(0, 0, 2, 2, "a")] + PLAN[1:], 1, ("step", 0, 0))):
            self.assertEqual(plan_error(game, cost, plan), error)
            self.assertEqual(first_plan_error(game, cost, plan), error)
            self.assertEqual(first_plan_error(plan=with_tuples(plan), cost=cost, game=game), error)

    def changes(self, entry):
        p, i, left, rank, move = entry
        found = [(2, None), (2, 0), (2, HUGE), (1, 0), (1, 1), (0, 0), (3, 0), (3, rank + 1), (3, HUGE), (4, None), (4, "a"), (4, "b"),
                 (4, "z")]
        if left is not None:
            found += [(2, left + 1), (2, max(left - 1, 0))]
        return found

    def test_one_thing_otherwise_at_each_place(self):
        random = Random(113)
        seen = Counter()
        for game in games(113, 70, sizes=((1, 3), (2, 3))):
            least = game.least_cost
            for number in {None, 0, 3} if least is None else {0, least - 1} - {-1, least}:
                for plan in changed(random, game.plan(number), self.changes):
                    for cost in {number, 0, 1, None}:
                        error = first_plan_error(game, cost, plan)
                        self.assertEqual(error, plan_error(game, cost, plan))
                        seen[error and error[0]] += 1
        self.assertGreater(min(seen[kind] for kind in ("start", "end", "move", "step", None)), 50)

    def test_ranks_count_where_a_step_costs_nothing(self):
        game = OnePass(Comparison(Prices("ab", {("a", "b"): 0, ("b", ""): 1}), Format.parse("a*b"), Format.parse("b*a")))
        self.assertEqual(game.least_cost, None)
        plan = game.plan(None)
        self.assertIsNone(first_plan_error(game, None, plan))
        flat = [entry[:3] + (0,) + entry[4:] for entry in plan]
        self.assertEqual(first_plan_error(game, None, flat), plan_error(game, None, flat))
        self.assertEqual(first_plan_error(game, None, flat)[0], "step")
        self.assertIsNone(first_plan_error(game, None, [entry[:3] + (entry[3] + HUGE - 9,) + entry[4:] for entry in plan]))

    def test_plans_of_another_form(self):
        game = example()
        wrong = [value for value in other_values() if value not in ([], ())]
        wrong += [{}, "ab", PLAN[0], [list(PLAN[0])], [PLAN[0][:4]], [PLAN[0] + (0,)], [()], [None]]
        for place, values in ((0, (2, -1, True, None, "0", HUGE)), (1, (2, -1, False, None, "0", HUGE)), (2, (-1, True, "1", [1], -HUGE)),
                              (3, (-1, None, True, "0", [0])), (4, ("", "ab", "A", 0, False, ["a"], ("a",)))):
            for value in values:
                other = PLAN[0][:place] + (value,) + PLAN[0][place + 1:]
                wrong += [[other], PLAN + [other], [other] + PLAN]
        for value in wrong:
            self.assert_raises(InvalidList, value, first_plan_error, game, 1, value)
            self.assert_raises(InvalidList, value, first_plan_error, game, None, value)

    def test_order_of_the_exceptions(self):
        faults = [(0, value, InvalidOnePass, value) for value in not_games()]
        faults += [(1, value, InvalidInteger, value) for value in (-1, -HUGE, *not_integers()) if value is not None]
        faults += [(2, value, InvalidList, value) for value in (None, "a", [(0, 0, -1, 0, None)], [0])]
        self.assert_faults(first_plan_error, [example(), 0, []], faults)
        self.assert_faults(first_plan_error, [example(), None, []], faults)

    def test_arguments_stay(self):
        game = example()
        plan, strategy = copy.deepcopy(PLAN), game.strategy(2)
        before = copy.deepcopy(strategy)
        first_plan_error(game, 1, plan), first_strategy_error(game, 2, strategy)
        self.assertEqual([plan, strategy], [PLAN, before])


class Decisions(Case):

    def assert_game(self, game):
        """For each number exactly one of a strategy and a plan exists, without an error; returns the least cost."""
        least = game.least_cost
        for number in {0, 1, 2, 3, 7, HUGE} | ({least, least + 1, max(least - 1, 0)} if least is not None else set()):
            strategy, plan = game.strategy(number), game.plan(number)
            self.assertIs(strategy is None, least is None or least > number)
            self.assertIs(plan is None, strategy is not None)
            if strategy is not None:
                self.assertIs(type(strategy), list)
                self.assertIsNone(first_strategy_error(game, number, strategy))
                self.assertIsNone(strategy_error(game, number, strategy))
            else:
                self.assertIs(type(plan), list)
                self.assertIsNone(first_plan_error(game, number, plan))
                self.assertIsNone(plan_error(game, number, plan))
        plan = game.plan(None)
        self.assertIs(plan is None, least is not None)
        decision = game.decision()
        if least is None:
            self.assertIsNone(plan_error(game, None, plan))
            self.assertEqual(decision, ("unbounded", plan))
        else:
            self.assertEqual(decision, ("bounded", least, game.strategy(least)))
        return least

    def test_drawn_formats(self):
        seen = Counter()
        for game in games(114, 250) + games(115, 40, letters="abc", sizes=((2, 4), (2, 4))):
            seen[self.assert_game(game)] += 1
            comparison = game.comparison().decision()
            if game.least_cost is None:
                seen["late"] += comparison[0] == "bounded"
            else:
                self.assertEqual(comparison[0], "bounded")
                self.assertLessEqual(comparison[1], game.least_cost)
                seen["more"] += comparison[1] < game.least_cost
        self.assertGreater(min(seen[kind] for kind in (None, 0, 1, 2, "late", "more")), 2)

    def test_least_costs_by_another_way(self):
        for game in games(116, 100) + games(117, 15, letters="abc", sizes=((2, 3), (2, 3))):
            values = values_of(game, 60)
            self.assertEqual(values[0, 0], game.least_cost)

    def test_large_formats(self):
        for game in games(118, 6, letters="abc", sizes=((12, 12), (6, 6))):
            self.assert_game(game)

    def test_known_least_costs(self):
        for first, second, least in (("a*", "a*", 0), ("", "ab", 2), ("a*", "b*", None), ("ab|ac", "ab|bc", 1), ("(ab)*", "(ba)*", 2),
                                     ("abb|aba", "abb|bba", 1), ("a*b", "a*b", 0), ("a*b|a*c", "a*b|c", 1), ("(a|b)*", "a*|b*", None)):
            game = OnePass(Comparison(Prices("abc", {}, default=1), Format.parse(first), Format.parse(second)))
            self.assertEqual(self.assert_game(game), least)

    def test_what_follows_is_not_known(self):
        # Each text costs at most 1, but whether to begin with a or with b is seen at the end only.
        prices = Prices("abc", {("c", "a"): 0, ("c", "b"): 0, ("a", "b"): 1, ("b", "a"): 1})
        comparison = Comparison(prices, Format.parse("c*(a|b)"), Format.parse("a*|b*"))
        self.assertEqual([comparison.decision()[:2], OnePass(comparison).least_cost], [("bounded", 0), 1])
        deep = Comparison(Prices("abc", {("c", "a"): 0, ("c", "b"): 0}), Format.parse("c*(a|b)"), Format.parse("a*|b*"))
        self.assertEqual([deep.decision()[:2], self.assert_game(OnePass(deep))], [("bounded", 0), None])

    def test_no_step_has_a_price(self):
        game = OnePass(Comparison(Prices("ab", {}), Format.parse("ab|aa"), Format.parse("aa")))
        self.assertIsNone(self.assert_game(game))

    def test_end_costs_that_are_none(self):
        game = OnePass(Comparison(Prices("ab", {("b", ""): 2}), Format.parse("a?b*"), Format.parse("ab?a")))
        self.assertEqual(game.end_costs(), [None, None, 0, None])
        self.assertIsNone(self.assert_game(game))

    def test_numbers(self):
        game = example()
        self.assertEqual([game.strategy(number=HUGE) is None, game.plan(number=0) is None, game.plan(number=None)], [False, False, None])
        for value in (-1, -HUGE, *not_integers()):
            self.assert_raises(InvalidInteger, value, game.strategy, value)
            if value is not None:
                self.assert_raises(InvalidInteger, value, game.plan, value)

    def test_results_are_new(self):
        bounded, unbounded = example(), OnePass(Comparison(ONE, Format.parse("a*"), Format.parse("b*")))
        for call in (lambda: bounded.decision(), lambda: bounded.strategy(2), lambda: unbounded.decision(), lambda: unbounded.plan(None)):
            found = call()
            before = copy.deepcopy(found)
            entries = found[-1] if isinstance(found, tuple) else found
            parts = [entry[3] for entry in entries if isinstance(entry[3], dict)]
            self.assertEqual(len({id(part) for part in parts}), len(parts))
            for part in parts + lists_in(found):
                part.clear()
            self.assertEqual(call(), before)
