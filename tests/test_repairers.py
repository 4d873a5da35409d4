"""Tests of [115] and [116]: repairers and relays."""

import copy
from random import Random

from formatrepair.comparisons import Comparison
from formatrepair.errors import Finished, InvalidInteger, InvalidLetter, InvalidList, InvalidOnePass, NotContinuing
from formatrepair.errors import NotIncluded
from formatrepair.formats import Format
from formatrepair.onepass import OnePass
from formatrepair.prices import Prices, is_script, script_cost, script_source, script_target
from formatrepair.repairers import Relay, Repairer

from drawn import drawn_cases, drawn_format, drawn_prices
from oracle import texts_up_to
from support import Case, not_integers, other_values, with_tuples
from test_comparisons import ONE, PAIRS, cost_of
from test_onepass import HUGE, Known, example, games, not_games

BACK = Format.parse("(ba)*")


def begun(game, more=0):
    """Return a repairer for the least cost of a game, or for a greater number."""
    return Repairer(game, game.least_cost + more, game.strategy(game.least_cost + more))


def repairer_between(prices, first, second):
    return begun(OnePass(Comparison(prices, first, second)))


def not_letters():
    return other_values() + ["", "ab", "A", "é", ["a"], ("a",), 0]


class Checked(Case):
    """A test case that reads texts with a repairer."""

    def assert_step(self, known, repairer, letter):
        """One letter does what the price of the step says, and what is left and spent never grows together."""
        p, i = repairer.position()
        before, written, spent, left = repairer.text(), repairer.written(), repairer.spent, repairer.left
        more = repairer(letter)
        q, j = repairer.position()
        self.assertEqual([repairer.text(), repairer.written()], [before + letter, written + more])
        self.assertEqual(q, known.rows[p][letter])
        self.assertEqual(repairer.spent - spent, known.prices[letter][i][j])
        self.assertLessEqual(repairer.spent + repairer.left, spent + left)
        self.assert_script(repairer)

    def assert_script(self, repairer):
        prices = repairer.comparison().prices()
        script = repairer.script()
        self.assertIs(type(script), list)
        self.assertIs(is_script(prices, script), True)
        self.assertEqual([script_source(prices, script), script_target(prices, script), script_cost(prices, script)],
                         [repairer.text(), repairer.written(), repairer.spent])

    def assert_reading(self, repairer, text, number):
        """A text is repaired for at most the number."""
        known = Known(repairer._game)
        comparison = repairer.comparison()
        self.assertEqual([repairer.position(), repairer.spent, repairer.text(), repairer.written(), repairer.script()],
                         [(0, 0), 0, "", "", []])
        self.assertLessEqual(repairer.left, number)
        for letter in text:
            self.assert_step(known, repairer, letter)
        spent, left, position, written = repairer.spent, repairer.left, repairer.position(), repairer.written()
        last = repairer.finish()
        self.assertEqual(repairer.written(), written + last)
        self.assertEqual([repairer.left, repairer.position(), repairer.text()], [0, position, text])
        self.assertEqual(repairer.spent - spent, known.ends[position[1]])
        self.assertLessEqual(repairer.spent, spent + left)
        self.assertIn(repairer.written(), comparison.second())
        self.assertLessEqual(repairer.spent, number)
        self.assertGreaterEqual(repairer.spent, cost_of(comparison.prices(), text, comparison.second()))
        self.assert_script(repairer)


class Repairing(Checked):

    def test_example(self):
        game = example()
        repairer = Repairer(game, 2, game.strategy(2))
        found = [repairer.left, repairer("a") in ("", "ba"), repairer.spent, repairer.left, repairer.position()]
        self.assertEqual(found, [2, True, 1, 1, (1, 0)])

    def test_drawn_formats(self):
        seen = 0
        for game in games(115, 60) + games(1151, 15, letters="abc", sizes=((2, 4), (2, 4))):
            if game.least_cost is not None:
                first = game.comparison().first()
                for text in texts_up_to(first.letters(), 5 if len(first.letters()) < 3 else 3):
                    if text in first:
                        self.assert_reading(begun(game), text, game.least_cost)
                        seen += 1
                        if len(text) < 3:
                            self.assert_reading(begun(game, 2), text, game.least_cost + 2)
        self.assertGreater(seen, 200)

    def test_long_texts(self):
        repairer = repairer_between(ONE, PAIRS, BACK)
        for letter in "ab" * 400:
            repairer(letter)
        repairer.finish()
        self.assertEqual([repairer.spent, len(repairer.text()), repairer.written() in BACK], [2, 800, True])

    def test_a_strategy_of_the_caller(self):
        game = example()
        dear = [(0, 0, 9, {"a": 1, "z": 0}), (1, 1, 7, {"b": 0}), (0, 1, 1, {"a": 1})]
        self.assert_raises(InvalidList, dear, Repairer, game, 9, dear)
        strategy = [(0, 1, 3, {"a": 0}), (1, 0, 3, {"b": 1, "z": 0}), (0, 0, 9, {"a": 0, "b": 1}), (1, 1, 4, {"b": 1})]
        for value in (strategy, with_tuples(strategy)):
            repairer = Repairer(game, 9, value)
            found = [repairer.left]
            for letter in "abab":
                repairer(letter)
                found += [repairer.left, repairer.position()]
            self.assertEqual(found, [9, 3, (1, 0), 3, (0, 1), 3, (1, 0), 3, (0, 1)])
            self.assertEqual([repairer.finish(), repairer.spent, repairer.left], ["a", 2, 0])
            self.assert_script(repairer)

    def test_the_strategy_may_be_modified_afterwards(self):
        game = example()
        strategy = game.strategy(2)
        before = copy.deepcopy(strategy)
        repairer = Repairer(game=game, cost=2, strategy=strategy)
        self.assertEqual(strategy, before)
        for entry in strategy:
            entry[3].clear()
        strategy.clear()
        for letter in "abab":
            repairer(letter)
        repairer.copied()("a")
        self.assertEqual([repairer.text(), repairer.finish() is not None], ["abab", True])

    def test_order_of_the_exceptions(self):
        game = example()
        faults = [(0, value, InvalidOnePass, value) for value in not_games()]
        faults += [(1, value, InvalidInteger, value) for value in (-1, -HUGE, *not_integers())]
        faults += [(2, value, InvalidList, value) for value in (None, "a", [(0, 0, -1, {})], [0], [], game.strategy(2)[1:])]
        self.assert_faults(Repairer, [game, 2, game.strategy(2)], faults)
        for strategy in (game.strategy(2), tuple(game.strategy(2))):
            self.assert_raises(InvalidList, strategy, Repairer, game, 1, strategy)

    def test_letters(self):
        repairer = repairer_between(ONE, PAIRS, BACK)
        repairer("a")
        shown = self.shown(repairer)
        for value in not_letters():
            self.assert_raises(InvalidLetter, value, repairer, value)
        for letter in ("a", "z", "c"):
            self.assert_raises(NotContinuing, letter, repairer, letter)
        self.assertEqual(self.shown(repairer), shown)
        repairer(letter="b")
        self.assertEqual(repairer.text(), "ab")

    def shown(self, repairer):
        """Return all that a repairer tells of itself."""
        return [repairer.text(), repairer.written(), repairer.spent, repairer.left, repairer.position(), repairer.script()]

    def test_finish(self):
        repairer = repairer_between(ONE, PAIRS, BACK)
        repairer("a")
        shown = self.shown(repairer)
        with self.assertRaises(NotIncluded) as caught:
            repairer.finish()
        self.assertEqual([caught.exception.value, self.shown(repairer)], ["a", shown])
        repairer("b")
        repairer.finish()
        shown = self.shown(repairer)
        for value in not_letters():
            self.assert_raises(InvalidLetter, value, repairer, value)
        for letter in ("a", "b", "z"):
            with self.assertRaises(Finished):
                repairer(letter)
        with self.assertRaises(Finished):
            repairer.finish()
        self.assertEqual(self.shown(repairer), shown)

    def test_the_empty_text(self):
        repairer = repairer_between(ONE, Format.parse("a?"), Format.parse("abb?"))
        self.assertEqual([repairer.finish() in ("ab", "abb"), repairer.spent, repairer.left, repairer.text()], [True, 2, 0, ""])
        other = repairer_between(ONE, Format.parse("a"), Format.parse("a"))
        with self.assertRaises(NotIncluded) as caught:
            other.finish()
        self.assertEqual(caught.exception.value, "")

    def test_copies_go_on_apart(self):
        for game in games(1152, 30):
            if game.least_cost is not None:
                first = game.comparison().first()
                texts = [text for text in texts_up_to(first.letters(), 4) if text in first]
                for text in texts[-3:]:
                    repairer = begun(game)
                    for letter in text[:len(text) // 2]:
                        repairer(letter)
                    other = repairer.copied()
                    self.assertIs(type(other), Repairer)
                    shown = self.shown(repairer)
                    self.assertEqual(self.shown(other), shown)
                    for letter in text[len(text) // 2:]:
                        other(letter)
                    other.finish()
                    self.assertEqual(self.shown(repairer), shown)
                    for letter in text[len(text) // 2:]:
                        repairer(letter)
                    third = repairer.copied()
                    repairer.finish()
                    self.assertEqual(self.shown(repairer), self.shown(other))
                    with self.assertRaises(Finished):
                        repairer.copied().finish()
                    third.finish()
                    self.assertEqual(self.shown(third), self.shown(other))

    def test_results_are_new_and_repairers_differ(self):
        repairer = repairer_between(ONE, PAIRS, BACK)
        repairer("a")
        repairer.script().clear()
        self.assert_script(repairer)
        self.assertIs(repairer == repairer.copied(), False)
        self.assertIs(repairer == repairer, True)
        for name in ("spent", "left"):
            with self.assertRaises(AttributeError):
                setattr(repairer, name, 0)


class Relays(Case):

    def assert_relay(self, relay, repairers, text, numbers):
        """A relay does what its repairers do one after another."""
        self.assertIs(type(relay), Relay)
        self.assertNotIsInstance(relay, Repairer)
        self.assertEqual([relay.text(), relay.written(), relay.spent], ["", "", 0])
        alone = [repairer.copied() for repairer in repairers]
        written = ""
        for letter in text:
            spent, left = relay.spent, relay.left
            more = relay(letter)
            self.assertLessEqual(relay.spent + relay.left, spent + left)
            written += more
            for repairer in alone:
                letter = "".join(map(repairer, letter))
            self.assertEqual([more, relay.spent, relay.left], [letter, *self.sums(alone)])
        last = relay.finish()
        ending = ""
        for repairer in alone:
            ending = "".join(map(repairer, ending)) + repairer.finish()
        self.assertEqual([last, relay.spent, relay.left], [ending, *self.sums(alone)])
        self.assertEqual([relay.text(), relay.written(), relay.left], [text, written + last, 0])
        self.assertIn(relay.written(), repairers[-1].comparison().second())
        self.assertLessEqual(relay.spent, sum(numbers))
        for repairer in repairers:
            self.assertEqual([repairer.text(), repairer.spent], ["", 0])

    def sums(self, repairers):
        return [sum(repairer.spent for repairer in repairers), sum(repairer.left for repairer in repairers)]

    def test_drawn_formats(self):
        random = Random(116)
        twos = threes = 0
        for prices, first, second in drawn_cases(116, 120):
            made = [first, second, drawn_format(random, "ab", 2), drawn_format(random, "ab", 2)]
            tables = [prices, drawn_prices(random, "ab"), drawn_prices(random, "abc")]
            all_games = [OnePass(Comparison(table, *pair)) for table, pair in zip(tables, zip(made, made[1:]))]
            costs = [game.least_cost for game in all_games]
            texts = [text for text in texts_up_to("ab", 4) if text in first]
            if None not in costs[:2]:
                one, other = map(begun, all_games[:2])
                for text in texts[::3]:
                    self.assert_relay(one.into(other), [one, other], text, costs[:2])
                twos += 1
                if costs[2] is not None:
                    third = begun(all_games[2])
                    for text in texts[::4]:
                        self.assert_relay(one.into(other).into(third), [one, other, third], text, costs)
                    threes += 1
        self.assertGreater(min(twos, threes), 10)

    def two(self):
        return repairer_between(ONE, PAIRS, BACK), repairer_between(Prices("abc", {}, default=2), BACK, Format.parse("(ab)*"))

    def test_what_does_not_fit(self):
        one, other = self.two()
        relay = one.into(other=other)
        same = repairer_between(ONE, Format([{"b": 1}, {"a": 2}, {"b": 1}], [0, 2]), PAIRS)
        self.assertIs(type(one.into(same)), Relay)
        third = repairer_between(ONE, Format.parse("a*"), Format.parse("a*"))
        for value in [*other_values(), Relay, Repairer, example(), relay, one, third, 0, "a"]:
            self.assert_raises(InvalidOnePass, value, one.into, value)
        for value in [*other_values(), relay, other, third, 0, "a"]:
            self.assert_raises(InvalidOnePass, value, relay.into, value)
        self.assertIs(type(relay.into(one)), Relay)
        self.assertIs(type(third.into(third)), Relay)

    def test_what_has_begun(self):
        for finishing in (False, True):
            one, other = self.two()
            for repairer, letters in ((one, "ab"), (other, "ba")):
                before = repairer.copied()
                if finishing:
                    repairer.finish()
                else:
                    repairer(letters[0])
                fresh = self.two()
                pair = (repairer, fresh[1]) if repairer is one else (fresh[0], repairer)
                with self.assertRaises(Finished):
                    pair[0].into(pair[1])
                self.assert_raises(InvalidOnePass, 7, pair[0].into, 7)
                third = repairer_between(ONE, Format.parse("a*"), Format.parse("a*"))
                third("a")
                self.assert_raises(InvalidOnePass, third, pair[0].into, third)
                self.assertIs(type((before if repairer is one else fresh[0]).into(before if repairer is other else fresh[1])), Relay)
            relay = fresh[0].into(fresh[1])
            relay.finish() if finishing else relay("a")
            with self.assertRaises(Finished):
                relay.into(self.two()[0])
            self.assert_raises(InvalidOnePass, None, relay.into, None)
            with self.assertRaises(Finished):
                fresh[0].into(fresh[1]).into(one)

    def test_letters_and_the_end(self):
        one, other = self.two()
        relay = one.into(other)
        for value in not_letters():
            self.assert_raises(InvalidLetter, value, relay, value)
        for letter in ("b", "z"):
            self.assert_raises(NotContinuing, letter, relay, letter)
        relay(letter="a")
        with self.assertRaises(NotIncluded) as caught:
            relay.finish()
        self.assertEqual([caught.exception.value, relay.text()], ["a", "a"])
        relay("b")
        self.assertEqual(relay.written() + relay.finish(), relay.written())
        for value in not_letters():
            self.assert_raises(InvalidLetter, value, relay, value)
        for call in (relay.finish, lambda: relay("a"), lambda: relay("z")):
            with self.assertRaises(Finished):
                call()

    def test_copies_go_on_apart(self):
        one, other = self.two()
        relay = one.into(other)
        relay("a")
        copied = relay.copied()
        self.assertIs(type(copied), Relay)
        shown = [relay.text(), relay.written(), relay.spent, relay.left]
        self.assertEqual([copied.text(), copied.written(), copied.spent, copied.left], shown)
        copied("b")
        copied.finish()
        self.assertEqual([relay.text(), relay.written(), relay.spent, relay.left], shown)
        relay("b")
        relay.finish()
        self.assertEqual([relay.written(), relay.spent], [copied.written(), copied.spent])
        one("a")
        other("b")
        self.assertEqual([relay.text(), relay.copied().text()], ["ab", "ab"])
        self.assertIs(relay == copied, False)
        with self.assertRaises(AttributeError):
            relay.spent = 0
