"""Tests of [51]: price tables, the costs of pairs and their chains."""

import copy
from itertools import permutations, product
from random import Random

from formatrepair.errors import InvalidAlphabet, InvalidPrice, InvalidSymbol, InvalidTable
from formatrepair.prices import Prices

from oracle import chain_costs, number_or_none
from support import Case, other_values


def made_at_random(random, alphabet):
    """Return the prices of a table with few and small prices, so that many chains are cheap."""
    symbols = ["", *alphabet]
    pairs = [pair for pair in product(symbols, repeat=2) if pair[0] != pair[1] and random.random() < 0.6]
    return Prices(alphabet, {pair: random.choice([0, 0, 1, 2, 5, 9, None]) for pair in pairs},
                  default=random.choice([None, None, 0, 3, 9]))


def made_with(alphabet, table, default):
    return Prices(alphabet, table, default=default)


def example():
    return Prices("ab", {("a", ""): 1, ("", "b"): 1, ("b", "a"): 5}, default=None)


class Made(Case):

    def test_example(self):
        prices = example()
        found = [prices.price("a", "b"), prices.cost("a", "b"), prices.chain("a", "b"), prices.cost("", "a"),
                 prices.highest]
        self.assertEqual(found, [None, 2, ["a", "", "b"], 6, 6])

    def test_alphabets(self):
        for size in range(1, 7):
            letters = "abmxyz"[:size]
            for order in list(permutations(letters))[::17]:
                self.assertEqual(Prices("".join(order), {}).alphabet(), letters)
        self.assertEqual(Prices(alphabet="q", table={}, default=2).alphabet(), "q")

    def test_prices_of_a_table(self):
        for default in (None, 0, 7, 9):
            prices = Prices("cab", {("a", "b"): 3, ("", "c"): 0, ("c", ""): None}, default=default)
            expected = {pair: default for pair in product(["", "a", "b", "c"], repeat=2)}
            expected.update({("a", "b"): 3, ("", "c"): 0, ("c", ""): None})
            expected.update({(symbol, symbol): 0 for symbol in ["", "a", "b", "c"]})
            for (source, target), price in expected.items():
                self.assertEqual(prices.price(source, target), price)
                self.assertEqual(prices.price(target=target, source=source), price)

    def test_the_default_is_none(self):
        self.assertIsNone(Prices("ab", {}).price("a", "b"))
        with self.assertRaises(TypeError):
            Prices("ab", {}, 1)

    def test_alphabets_that_are_none(self):
        wrong = other_values() + ["", "aa", "aba", "abcdefg", "abcdefa", "aB", "a-", ["a", "b"], ("a",), {"a": 1}]
        for value in wrong:
            self.assert_raises(InvalidAlphabet, value, Prices, value, {})
            self.assert_raises(InvalidAlphabet, value, made_with, value, None, "x")

    def test_tables_that_are_none(self):
        wrong = [value for value in other_values() if value != {}]
        wrong += [[(("a", "b"), 1)], "ab"]
        wrong += [{key: 1} for key in ("a", "ab", 1, (), ("a",), ("a", "a"), ("", ""), ("a", "b", "a"), ("a", "c"),
                                       ("c", "a"), ("c", ""), ("", "c"), ("ab", ""), ("", "ab"), ("A", "b"), ("b", "-"))]
        wrong += [{("a", "b"): price} for price in (-1, 10, True, False, "1", "", [1], (1,), [], {}, 10 ** 30 - 1)]
        wrong += [{("a", "b"): 1, ("b", "a"): 2, ("a", ""): 10}]
        for value in wrong:
            self.assert_raises(InvalidTable, value, Prices, "ab", value)
            self.assert_raises(InvalidTable, value, made_with, "ab", value, "x")

    def test_defaults_that_are_none(self):
        for value in [value for value in other_values() if value is not None] + [10, -1, "1", [1]]:
            self.assert_raises(InvalidPrice, value, made_with, "ab", {}, value)

    def test_the_table_is_copied(self):
        table = {("a", "b"): 3}
        before = copy.deepcopy(table)
        prices = Prices("ab", table, default=9)
        self.assertEqual(table, before)
        table["a", "b"] = 1
        table["b", "a"] = 1
        self.assertEqual([prices.price("a", "b"), prices.price("b", "a")], [3, 9])
        self.assertEqual(prices, Prices("ab", before, default=9))

    def test_repr_is_a_string(self):
        self.assertIsInstance(repr(example()), str)


class Chains(Case):

    def assert_chains(self, prices):
        """All costs are least, and all chains lead where they should, for as much, with no entry twice."""
        symbols = ["", *prices.alphabet()]
        costs = chain_costs(prices.alphabet(), prices.price)
        for x, y in product(symbols, repeat=2):
            cost = number_or_none(costs[x, y])
            self.assertEqual(prices.cost(x, y), cost)
            chain = prices.chain(x, y)
            if cost is None:
                self.assertIsNone(chain)
            else:
                self.assertIs(type(chain), list)
                self.assertEqual([chain[0], chain[-1], len(chain)], [x, y, len(set(chain))])
                steps = [prices.price(*step) for step in zip(chain, chain[1:])]
                self.assertNotIn(None, steps)
                self.assertEqual(sum(steps), cost)
        self.assertEqual(prices.highest, max(cost for cost in costs.values() if number_or_none(cost) is not None))
        self.assertIs(type(prices.highest), int)

    def test_example(self):
        self.assert_chains(example())

    def test_many_tables(self):
        random = Random(51)
        for size in range(1, 7):
            for _ in range(25):
                self.assert_chains(made_at_random(random, "abcdef"[:size]))

    def test_equal_symbols(self):
        for prices in (Prices("ab", {}), Prices("ab", {}, default=0), example()):
            for symbol in ("", "a", "b"):
                self.assertEqual([prices.price(symbol, symbol), prices.cost(symbol, symbol), prices.chain(symbol, symbol)],
                                 [0, 0, [symbol]])

    def test_chains_through_letters_and_through_the_empty_string(self):
        row = Prices("abcdef", {(x, y): 9 for x, y in zip("abcde", "bcdef")})
        self.assertEqual([row.cost("a", "f"), row.chain("a", "f"), row.cost("f", "a"), row.chain("f", "a")],
                         [45, list("abcdef"), None, None])
        self.assertEqual(row.highest, 45)
        around = Prices("ab", {("a", ""): 2, ("", "b"): 3, ("a", "b"): 6})
        self.assertEqual([around.cost("a", "b"), around.chain("a", "b"), around.price("a", "b")], [5, ["a", "", "b"], 6])
        whole = Prices("abcdef", {(x, y): 9 for x, y in zip(["", *"abcde"], "abcdef")})
        self.assertEqual([whole.cost("", "f"), whole.highest], [54, 54])

    def test_chains_for_nothing(self):
        prices = Prices("abc", {}, default=0)
        for x, y in product(["", *"abc"], repeat=2):
            chain = prices.chain(x, y)
            self.assertEqual([prices.cost(x, y), chain[0], chain[-1], len(chain)], [0, x, y, len(set(chain))])

    def test_costs_that_are_none(self):
        prices = Prices("abc", {("a", "b"): 1})
        self.assertEqual([prices.cost("b", "a"), prices.cost("a", "c"), prices.cost("a", ""), prices.cost("", "a")],
                         [None] * 4)
        self.assertEqual(prices.highest, 1)

    def test_highest_without_an_allowed_edit(self):
        self.assertEqual([Prices("abc", {}).highest, Prices("abc", {("a", "b"): 0}).highest], [0, 0])
        self.assertEqual(Prices("ab", {("a", "b"): None}, default=None).highest, 0)

    def test_results_that_the_caller_modifies(self):
        prices = example()
        prices.chain("a", "b").append("c")
        prices.chain("a", "a").clear()
        self.assertEqual([prices.chain("a", "b"), prices.chain("a", "a")], [["a", "", "b"], ["a"]])
        self.assertEqual(prices.chain(target="b", source="a"), ["a", "", "b"])
        self.assertEqual(prices.cost(target="b", source="a"), 2)

    def test_wrong_symbols(self):
        prices = example()
        wrong = [value for value in other_values()] + ["c", "ab", "ba", "aa", ["a"], ("a",), 0]
        for value in wrong:
            for call in (prices.price, prices.cost, prices.chain):
                self.assert_raises(InvalidSymbol, value, call, value, "a")
                self.assert_raises(InvalidSymbol, value, call, "a", value)
                self.assert_raises(InvalidSymbol, value, call, "", value)
        first, second = ["a"], ["b"]
        for call in (prices.price, prices.cost, prices.chain):
            self.assert_raises(InvalidSymbol, first, call, first, second)
            self.assert_raises(InvalidSymbol, first, call, first, first)

    def test_equal_calls_have_equal_results(self):
        random = Random(7)
        for _ in range(20):
            prices = made_at_random(random, "bdca")
            table = {pair: prices.price(*pair) for pair in product(["", *"abcd"], repeat=2) if pair[0] != pair[1]}
            again = Prices("cdab", dict(reversed(table.items())))
            for pair in product(["", *"abcd"], repeat=2):
                self.assertEqual(prices.chain(*pair), again.chain(*pair))


class Equality(Case):

    def test_equal_prices_told_in_other_ways(self):
        pairs = [("a", "b"), ("b", "a"), ("", "a"), ("", "b"), ("a", ""), ("b", "")]
        self.assertEqual(Prices("ab", {}, default=1), Prices("ba", {pair: 1 for pair in pairs}))
        self.assertEqual(Prices("ab", {("a", "b"): None}), Prices("ab", {}))
        self.assertEqual(Prices("ab", {("a", "b"): 2, ("b", "a"): 3}), Prices("ab", {("b", "a"): 3, ("a", "b"): 2}))
        self.assertEqual(Prices("ab", {pair: 4 for pair in pairs}, default=9), Prices("ab", {}, default=4))
        self.assertIs(Prices("ab", {}) != Prices("ba", {}), False)

    def test_other_prices_and_alphabets(self):
        one = Prices("ab", {}, default=1)
        for other in (Prices("ab", {}, default=2), Prices("ab", {}), Prices("ac", {}, default=1), Prices("a", {}, default=1),
                      Prices("abc", {}, default=1), Prices("ab", {("a", "b"): 2}, default=1)):
            self.assertIs(one == other, False)
            self.assertIs(one != other, True)

    def test_equal_costs_are_not_enough(self):
        one = Prices("ab", {("a", ""): 1, ("", "b"): 1})
        other = Prices("ab", {("a", ""): 1, ("", "b"): 1, ("a", "b"): 2})
        self.assertEqual(one.cost("a", "b"), other.cost("a", "b"))
        self.assertNotEqual(one, other)

    def test_other_values(self):
        for value in other_values():
            self.assertIs(Prices("abc", {}) == value, False)


class Guarantees(Case):

    def test_renamed_letters(self):
        random = Random(9)
        for _ in range(20):
            prices = made_at_random(random, "abc")
            for names in ({"": "", "a": "z", "b": "c", "c": "k"}, {"": "", "a": "b", "b": "c", "c": "d"}):
                pairs = [pair for pair in product(["", *"abc"], repeat=2) if pair[0] != pair[1]]
                renamed = Prices("".join(names[letter] for letter in "abc"),
                                 {(names[x], names[y]): prices.price(x, y) for x, y in pairs})
                self.assertEqual(renamed.highest, prices.highest)
                for x, y in pairs:
                    self.assertEqual(renamed.cost(names[x], names[y]), prices.cost(x, y))
