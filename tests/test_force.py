"""Tests of [117]: a plan that is played against a function."""

import copy
from random import Random

from formatrepair.comparisons import Comparison
from formatrepair.errors import InvalidInteger, InvalidList, InvalidOnePass
from formatrepair.formats import Format
from formatrepair.onepass import OnePass, first_plan_error, force
from formatrepair.prices import Prices

from support import Case, not_integers, with_tuples
from test_comparisons import ONE, cost_of
from test_onepass import HUGE, PLAN, Known, endless, example, games, not_games


class Answering:
    """Answers like a repairer that knows the prices, and remembers what it was asked."""

    def __init__(self, game, choose):
        self.known = Known(game)
        self.choose = choose
        self.asked = []
        self.situations = {"": (0, 0, 0)}

    def __call__(self, text, letter):
        self.asked.append((text, letter))
        p, i, paid = self.situations[text]
        prices = self.known.prices[letter][i]
        j = self.choose([(price, there) for there, price in enumerate(prices) if price is not None])[1]
        self.situations[text + letter] = (self.known.rows[p][letter], j, paid + prices[j])
        return j


class Forced(Case):

    def assert_forced(self, game, number, plan, choose):
        """The text is in the first format, what was paid is told, and it is more than the number."""
        answer = Answering(game, choose)
        result = force(game, number, plan, answer)
        self.assertIs(type(result), tuple)
        text, paid = result
        self.assertIn(text, game.comparison().first())
        self.assertEqual([before + letter for before, letter in answer.asked], [text[:k + 1] for k in range(len(answer.asked))])
        last = answer.situations[text[:len(answer.asked)]]
        if len(answer.asked) < len(text):
            self.assertIsNone(paid)
            state = last[1]
            letter = text[len(answer.asked)]
            self.assertEqual([price for price in answer.known.prices[letter][state] if price is not None], [])
        else:
            end = answer.known.ends[last[1]]
            self.assertEqual(paid, None if end is None else last[2] + end)
        self.assertGreater(endless(paid), number)
        least = cost_of(game.comparison().prices(), text, game.comparison().second())
        self.assertGreaterEqual(endless(paid), endless(least))
        return text, paid

    def test_drawn_formats(self):
        random = Random(117)
        nones = 0
        ways = (min, max, random.choice, lambda steps: max(steps, key=lambda step: (step[0] == 0, step[1])))
        for game in games(1171, 80) + games(1172, 25, letters="abc", sizes=((2, 4), (2, 4))):
            least = game.least_cost
            numbers = {0, 1, 5, 20} if least is None else set(range(least))
            for number in numbers:
                for choose in ways:
                    text, paid = self.assert_forced(game, number, game.plan(number), choose)
                    nones += paid is None
        self.assertGreater(nones, 20)

    def test_answers_of_the_best_strategy(self):
        for game in games(1173, 60):
            if game.least_cost:
                steps = {(p, i): chosen for p, i, _, chosen in game.strategy(game.least_cost)}
                positions = {"": (0, 0)}

                def answer(text, letter):
                    p, i = positions[text]
                    there = steps[p, i][letter]
                    positions[text + letter] = (game.comparison().first().next_state(p, letter), there)
                    return there

                for number in range(game.least_cost):
                    self.assertEqual(force(game, number, game.plan(number), answer)[1], game.least_cost)

    def test_a_plan_of_the_caller(self):
        game = example()
        for plan in (PLAN, with_tuples(PLAN), [(1, 1, 0, 0, "b")] + PLAN, PLAN[::-1]):
            for choose, found in ((min, ("ab", 2)), (max, ("ab", 3))):
                self.assertEqual(self.assert_forced(game, 1, plan, choose), found)
        self.assertEqual(force(answer=lambda text, letter: 1, plan=PLAN, cost=0, game=game), ("ab", 3))

    def test_claims_that_occur_several_times(self):
        # The first entries of the position claim least; the one with the greater rank goes on to the other.
        game = OnePass(Comparison(ONE, Format.parse("(a|b)*"), Format.parse("b*")))
        plan = [(0, 0, 0, 5, "b"), (0, 0, 0, 4, "a"), (0, 0, 1, 0, "a"), (0, 0, 2, 0, "a")]
        self.assertEqual(self.assert_forced(game, 2, plan, min), ("aaba", 3))
        self.assertEqual(self.assert_forced(game, 0, plan, min), ("ba", 1))
        self.assertEqual(self.assert_forced(game, 0, plan[::-1], min), ("a", 1))

    def test_way_to_the_end(self):
        game = OnePass(Comparison(ONE, Format.parse("(ab)*abba"), Format.parse("b*")))
        self.assertIsNone(game.least_cost)
        text, paid = self.assert_forced(game, 6, game.plan(6), min)
        self.assertEqual([text.endswith("abba"), paid >= 7], [True, True])

    def test_the_text_ends_before_a_letter(self):
        game = OnePass(Comparison(ONE, Format.parse("a?"), Format.parse("aab")))

        def answer(text, letter):
            raise AssertionError(text, letter)

        plan = game.plan(2)
        self.assertEqual(force(game, 2, [(0, 0, 2, 0, None)], answer), ("", 3))
        self.assertIsNone(first_plan_error(game, 2, plan))

    def test_no_step_has_a_price(self):
        game = OnePass(Comparison(Prices("ab", {("a", "b"): 4}), Format.parse("a(a|b)abb*"), Format.parse("bba*")))
        asked = []

        def answer(text, letter):
            asked.append(text + letter)
            return min(len(text) + 1, 2)

        for cost in (0, 3, 6, 7, 1000):
            del asked[:]
            text, paid = force(game, cost, game.plan(cost), answer)
            self.assertIn(text, game.comparison().first())
            self.assertIsNone(paid)
            self.assertLess(len(asked), len(text))

    def test_end_costs_that_are_none(self):
        game = OnePass(Comparison(Prices("ab", {}), Format.parse("a*"), Format.parse("a*b")))
        self.assertEqual(force(game, 5, [(0, 0, None, 0, None)], None), ("", None))
        plan = [(0, 0, None, 3, "a"), (0, 0, None, 2, "a"), (0, 0, None, 1, None)]
        self.assertEqual(force(game, 0, plan, lambda text, letter: 0), ("aa", None))

    def test_wrong_answers(self):
        game = example()
        for wrong in [2, -1, HUGE, *not_integers(), "0", [0]]:
            self.assert_raises(InvalidInteger, wrong, force, game, 1, PLAN, lambda text, letter: wrong)
            answers = {"": 0, "a": wrong}
            self.assert_raises(InvalidInteger, wrong, force, game, 1, PLAN, lambda text, letter: answers[text])
        fixed = OnePass(Comparison(Prices("ab", {("a", "b"): 1}), Format.parse("a*"), Format.parse("(bb)*|a")))
        self.assertEqual(fixed.least_cost, None)
        for wrong in (0, 3):
            self.assert_raises(InvalidInteger, wrong, force, fixed, 9, fixed.plan(9), lambda text, letter: wrong)

    def test_exceptions_of_the_function_go_on(self):
        class Own(Exception):
            pass

        def answer(text, letter):
            raise (KeyError("a") if text else Own())

        with self.assertRaises(Own):
            force(example(), 1, PLAN, answer)
        for error in (ValueError, KeyError, InvalidInteger(3), InvalidList(None), StopIteration, IndexError, RecursionError):
            def failing(text, letter):
                raise error

            with self.assertRaises(error if isinstance(error, type) else type(error)):
                force(example(), 1, PLAN, failing)

    def test_order_of_the_exceptions(self):
        def answer(text, letter):
            raise AssertionError

        good = example()
        faults = [(0, value, InvalidOnePass, value) for value in not_games()]
        faults += [(1, value, InvalidInteger, value) for value in (-1, -HUGE, *not_integers())]
        faults += [(2, value, InvalidList, value) for value in (None, "a", [(0, 0, -1, 0, None)], [0])]
        self.assert_faults(lambda game, cost, plan: force(game, cost, plan, answer), [good, 1, []], faults)
        for plan, cost in (([], 0), (PLAN, 2), (PLAN[:2], 1), (PLAN + [(0, 0, 0, 0, None)], 1)):
            self.assert_raises(InvalidList, plan, force, good, cost, plan, answer)

    def test_arguments_stay(self):
        plan = copy.deepcopy(PLAN)
        force(example(), 1, plan, lambda text, letter: 0)
        self.assertEqual(plan, PLAN)
