"""Tests of [61] to [63]: repair of one text, and the lower bounds that show that there is no cheaper one."""

import copy
from itertools import product
from random import Random

from formatrepair.errors import InvalidFormat, InvalidPrices, InvalidText, UnknownLetter
from formatrepair.expressions import parse_expression
from formatrepair.formats import Format
from formatrepair.prices import Prices, is_script, script_cost, script_source, script_target
from formatrepair.repair import cheapest_script, closest, is_remaining, is_remaining_repair, remaining_costs
from formatrepair.repair import remaining_repairs, repair

from oracle import chain_costs, chain_rows, least_cost_between, script_cost_between, table_costs, texts_up_to
from oracle import tree_texts
from support import Case, other_values, with_tuples
from test_prices import example, made_at_random
from test_scripts import not_prices

ONE = Prices("ab", {}, default=1)
EXPRESSIONS = ["0", "", "a", "b", "ab|b", "a*", "b+", "(ab)*", "(ba)+", "(a|b)*", "(a|b)*bb", "aa|bbb", "(aaa)*b?",
               "a(ba)*|bb", "a*b*a"]


def some_prices(alphabet, seed, many):
    """Return several price tables over a and b, plain ones and others."""
    random = Random(seed)
    tables = [Prices(alphabet, {}), Prices(alphabet, {}, default=0), Prices(alphabet, {}, default=1)]
    return tables + [made_at_random(random, alphabet) for _ in range(many)]


def faulty_rows(rows):
    """Return rows that are none of costs, by one fault at each place."""
    wrong = [rows[:-1], rows + [rows[0]], rows + [[]], [rows], rows[0] if rows else None]
    for i, row in enumerate(rows):
        for other in (row[:-1] if row else [0], row + [0], row + [None], None, 0, "a" * len(row), {}, {0: 0}):
            wrong.append(rows[:i] + [other] + rows[i + 1:])
        for j in range(len(row)):
            for item in (-1, True, False, "0", "", [0], (0,), [], {}, -(10 ** 30 - 1)):
                wrong.append(rows[:i] + [row[:j] + [item] + row[j + 1:]] + rows[i + 1:])
    return wrong


class Checked(Case):
    """A test case that looks into repairs."""

    def assert_script(self, prices, result, cost):
        """The result is a cost with a script of this cost, or None; returns the texts of the script."""
        if cost is None:
            self.assertIsNone(result)
            return None
        self.assertIs(type(result), tuple)
        found, script = result
        self.assertEqual(found, cost)
        self.assertIs(type(script), list)
        self.assertIs(is_script(prices, script), True)
        self.assertEqual(script_cost(prices, script), cost)
        return script_source(prices, script), script_target(prices, script)

    def assert_bounds(self, check, rows, holds):
        """The check finds just what holds says, with each item of the rows made less and greater, and refuses faults."""
        self.assertIs(check(rows), True)
        self.assertIs(check(with_tuples(rows)), True)
        before = copy.deepcopy(rows)
        for i, row in enumerate(rows):
            for j, item in enumerate(row):
                changes = [0, None] if item is None else [item - 1, 0, item + 1, item + 60, None]
                for change in changes:
                    if change != -1:
                        other = copy.deepcopy(rows)
                        other[i][j] = change
                        self.assertIs(check(other), holds(other))
                        if change is None or (item is not None and change > item):
                            self.assertIs(check(other), change == item)
        for wrong in faulty_rows(rows):
            self.assertIs(check(wrong), False)
        self.assertEqual(rows, before)


def is_lower_bound(costs, one, ends, other, goals, rows):
    """Return whether rows of costs are a lower bound, as [61] and [62] tell."""
    def number(cost):
        return 10 ** 5 if cost is None else cost

    if any(rows[i][j] != 0 for i in ends for j in goals):
        return False
    return all(number(rows[i][j]) <= costs[x, y] + number(rows[behind][end]) or costs[x, y] >= 10 ** 6
               for i in range(len(one)) for j in range(len(other))
               for x, behind in [("", i), *one[i].items()] for y, end in [("", j), *other[j].items()])


class Texts(Checked):

    def test_example(self):
        found = [cheapest_script(ONE, "ab", "b"), remaining_costs(ONE, "ab", "b"),
                 is_remaining(ONE, "ab", "b", [[1, 1], [0, 0], [0, 0]])]
        self.assertEqual(found, [(1, [("a", ""), ("b", "b")]), [[1, 2], [0, 1], [1, 0]], True])

    def test_all_short_texts(self):
        for prices in some_prices("ab", 61, 12):
            costs = chain_costs("ab", prices.price)
            for source, target in product(texts_up_to("ab", 3), repeat=2):
                cost = script_cost_between(costs, source, target)
                found = self.assert_script(prices, cheapest_script(prices, source, target), cost)
                if cost is not None:
                    self.assertEqual(found, (source, target))
                rows = remaining_costs(prices, source, target)
                expected = [[script_cost_between(costs, source[i:], target[j:]) for j in range(len(target) + 1)]
                            for i in range(len(source) + 1)]
                self.assertEqual(rows, expected)
                self.assertIs(is_remaining(prices, source, target, rows), True)

    def test_six_letters(self):
        random = Random(66)
        for prices in some_prices("bdfhjl", 6, 10):
            costs = chain_costs("bdfhjl", prices.price)
            for _ in range(10):
                source, target = ["".join(random.choices("bdfhjl", k=random.randrange(12))) for _ in range(2)]
                cost = script_cost_between(costs, source, target)
                found = self.assert_script(prices, cheapest_script(prices, source, target), cost)
                if cost is not None:
                    self.assertEqual(found, (source, target))
                self.assertEqual(remaining_costs(prices, source, target)[0][0], cost)

    def test_empty_texts(self):
        self.assertEqual([cheapest_script(ONE, "", ""), remaining_costs(ONE, "", "")], [(0, []), [[0]]])
        self.assertEqual(cheapest_script(ONE, "", "ab"), (2, [("", "a"), ("", "b")]))
        self.assertEqual(remaining_costs(ONE, "ab", ""), [[2], [1], [0]])
        self.assertEqual(remaining_costs(ONE, "", "ab"), [[2, 1, 0]])
        self.assertIs(is_remaining(ONE, "", "", [[0]]), True)
        for wrong in ([[1]], [[None]], [[]], [], [[0, 0]], [[0], [0]], [[False]]):
            self.assertIs(is_remaining(ONE, "", "", wrong), False)

    def test_texts_that_no_script_joins(self):
        prices = Prices("ab", {("a", "b"): 1})
        self.assertEqual([cheapest_script(prices, "b", "a"), cheapest_script(prices, "a", "bb")], [None, None])
        self.assertEqual(remaining_costs(prices, "ba", "bb"), [[1, None, None], [None, 1, None], [None, None, 0]])
        self.assertEqual(cheapest_script(Prices("ab", {}), "aba", "aba"), (0, [("a", "a"), ("b", "b"), ("a", "a")]))

    def test_pairs_that_cost_nothing(self):
        for default in (0, 9):
            prices = Prices("ab", {("a", "b"): 0, ("", "a"): 0, ("b", ""): 0}, default=default)
            self.assertEqual(self.assert_script(prices, cheapest_script(prices, "abab", "bb"), 0), ("abab", "bb"))
            self.assertEqual(remaining_costs(prices, "a", "b"), [[0, 0], [0, 0]])

    def test_texts_of_400_letters(self):
        source, target = "ab" * 200, "aab" * 133
        costs = chain_costs("ab", example().price)
        for prices in (ONE, example()):
            result = cheapest_script(prices, source, target)
            self.assertEqual(self.assert_script(prices, result, result[0]), (source, target))
            rows = remaining_costs(prices, source, target)
            self.assertEqual([rows[0][0], rows[399][398], len(rows), len(rows[0])], [result[0], *rows[399][398:399], 401, 400])
            self.assertIs(is_remaining(prices, source, target, rows), True)
            rows[200][0] += 500
            self.assertIs(is_remaining(prices, source, target, rows), False)
        self.assertEqual(remaining_costs(example(), source[360:], target[370:])[0][0],
                         script_cost_between(costs, source[360:], target[370:]))

    def test_lower_bounds(self):
        for prices in some_prices("ab", 62, 4) + [example()]:
            costs = chain_costs("ab", prices.price)
            for source, target in (("ab", "b"), ("a", "bb"), ("", "a"), ("b", ""), ("bab", "ab")):
                tables = (chain_rows(source), [len(source)], chain_rows(target), [len(target)])
                self.assert_bounds(lambda value: is_remaining(prices, source, target, value),
                                   remaining_costs(prices, source, target),
                                   lambda value: is_lower_bound(costs, *tables, value))

    def test_lower_bounds_below_the_least_costs(self):
        self.assertIs(is_remaining(ONE, "ab", "b", [[0, 0], [0, 0], [0, 0]]), True)
        self.assertIs(is_remaining(ONE, "ab", "b", [[0, 1], [0, 0], [0, 0]]), True)
        self.assertIs(is_remaining(ONE, "ab", "b", [[0, 1], [2, 0], [0, 0]]), False)
        self.assertIs(is_remaining(Prices("ab", {}), "a", "b", [[7, None], [None, 0]]), True)
        self.assertIs(is_remaining(Prices("ab", {}), "a", "a", [[7, None], [None, 0]]), False)
        self.assertIs(is_remaining(Prices("ab", {}), "a", "b", [[10 ** 30 - 1, None], [None, 0]]), True)

    def test_values_that_are_no_rows(self):
        for value in other_values():
            self.assertIs(is_remaining(ONE, "ab", "b", value), False)
        self.assertIs(is_remaining(value=[[0]], target="", source="", prices=ONE), True)

    def test_order_of_the_exceptions(self):
        faults = [(0, value, InvalidPrices, value) for value in not_prices()]
        faults += [(1, value, InvalidText, value) for value in (None, "a b", ["a"], True)]
        faults += [(1, "bca", UnknownLetter, "c"), (1, "azc", UnknownLetter, "z")]
        faults += [(2, value, InvalidText, value) for value in (None, "A", ("a",), 0)]
        faults += [(2, "abq", UnknownLetter, "q")]
        self.assert_faults(cheapest_script, [ONE, "a", "b"], faults)
        self.assert_faults(remaining_costs, [ONE, "a", "b"], faults)
        self.assert_faults(is_remaining, [ONE, "a", "b", None], faults)

    def test_results_are_new(self):
        remaining_costs(ONE, "ab", "b")[0].clear()
        cheapest_script(ONE, "ab", "b")[1].clear()
        rows = remaining_costs(ONE, "abb", "b")
        self.assertEqual(len({id(row) for row in rows}), len(rows))
        self.assertEqual(cheapest_script(prices=ONE, target="b", source="ab"), (1, [("a", ""), ("b", "b")]))
        self.assertEqual(remaining_costs(prices=ONE, target="b", source="ab"), [[1, 2], [0, 1], [1, 0]])


class Formats(Checked):

    def test_example(self):
        found = [repair(ONE, "abb", Format.parse("(ab)*"))[0], remaining_repairs(ONE, "ab", Format.parse("a")),
                 repair(ONE, "a", Format.parse("0"))]
        self.assertEqual(found, [1, [[1, 2], [1, 1], [1, 0]], None])

    def test_against_all_texts_of_a_format(self):
        for expression in EXPRESSIONS:
            made = Format.parse(expression)
            targets = tree_texts(parse_expression(expression), 6)
            for prices in some_prices("ab", 63, 3):
                costs = chain_costs("ab", prices.price)
                for text in ("", "b", "ab", "bba"):
                    # Prices that are not 0 make long targets dear, and a small table needs few letters.
                    best = least_cost_between(costs, [text], targets)
                    result = repair(prices, text, made)
                    self.assertEqual(None if result is None else result[0], best)

    def test_against_tables(self):
        for prices in some_prices("ab", 64, 12):
            costs = chain_costs("ab", prices.price)
            for expression in EXPRESSIONS:
                made = Format.parse(expression)
                for text in ("", "a", "bb", "abab", "baabbb"):
                    rows = remaining_repairs(prices, text, made)
                    self.assertEqual(rows, table_costs(costs, chain_rows(text), [len(text)], made.rows(), made.accepting()))
                    self.assertIs(is_remaining_repair(prices, text, made, rows), True)
                    best = rows[0][0] if rows[0] else None
                    found = self.assert_script(prices, repair(prices, text, made), best)
                    if best is not None:
                        self.assertEqual(found[0], text)
                        self.assertIs(found[1] in made, True)

    def test_a_text_of_the_format_costs_nothing(self):
        for expression in EXPRESSIONS:
            made = Format.parse(expression)
            for text in tree_texts(parse_expression(expression), 4):
                self.assertEqual(self.assert_script(ONE, repair(ONE, text, made), 0), (text, text))

    def test_formats_without_texts(self):
        none = Format.parse("0")
        for text in ("", "a", "abba"):
            self.assertIsNone(repair(ONE, text, none))
            empty = [[] for _ in range(len(text) + 1)]
            self.assertEqual(remaining_repairs(ONE, text, none), empty)
            self.assertIs(is_remaining_repair(ONE, text, none, empty), True)
            self.assertIs(is_remaining_repair(ONE, text, none, with_tuples(empty)), True)
            for wrong in ([], empty[1:], empty + [[]], [[0]] + empty[1:], [None] + empty[1:]):
                self.assertIs(is_remaining_repair(ONE, text, none, wrong), False)

    def test_insertions_that_cost_nothing(self):
        prices = Prices("ab", {("", "a"): 0, ("", "b"): 0})
        made = Format.parse("(ab)*|b(aab)*a")
        self.assertEqual(self.assert_script(prices, repair(prices, "", made), 0), ("", ""))
        found = self.assert_script(prices, repair(prices, "bbbb", made), 0)
        self.assertEqual(found[0], "bbbb")
        self.assertIn(found[1], made)
        self.assertEqual(remaining_repairs(prices, "bb", made), [[0] * made.size, [0] * made.size, [0] * made.size])

    def test_long_texts_and_large_formats(self):
        made = Format([{"a": (state * 7 + 1) % 40, "b": (state * 3 + 2) % 40} for state in range(40)], [7])
        for prices in (ONE, example()):
            result = repair(prices, "abb" * 133, made)
            found = self.assert_script(prices, result, result[0])
            self.assertEqual(found[0], "abb" * 133)
            self.assertIs(made.contains(found[1]), True)
            rows = remaining_repairs(prices, "abb" * 133, made)
            self.assertEqual([rows[0][0], len(rows)], [result[0], 400])
            self.assertIs(is_remaining_repair(prices, "abb" * 133, made, rows), True)

    def test_lower_bounds(self):
        for prices in some_prices("ab", 65, 3) + [example()]:
            costs = chain_costs("ab", prices.price)
            for text, expression in (("ab", "a"), ("", "(ab)*"), ("bab", "(ab)*"), ("b", "a*|bb"), ("a", "")):
                made = Format.parse(expression)
                tables = (chain_rows(text), [len(text)], made.rows(), made.accepting())
                self.assert_bounds(lambda value: is_remaining_repair(prices, text, made, value),
                                   remaining_repairs(prices, text, made),
                                   lambda value: is_lower_bound(costs, *tables, value))

    def test_lower_bounds_below_the_least_costs(self):
        made = Format.parse("a")
        self.assertIs(is_remaining_repair(ONE, "ab", made, [[0, 0], [0, 0], [0, 0]]), True)
        self.assertIs(is_remaining_repair(ONE, "ab", made, [[0, 0], [1, 0], [1, 0]]), True)
        self.assertIs(is_remaining_repair(ONE, "ab", made, [[1, 0], [1, 0], [1, 0]]), False)
        self.assertIs(is_remaining_repair(ONE, "ab", made, [[0, 0], [0, 0], [0, 1]]), False)
        self.assertIs(is_remaining_repair(Prices("ab", {}), "b", made, [[None, 5], [None, 0]]), True)
        self.assertIs(is_remaining_repair(Prices("ab", {}), "a", made, [[None, 5], [None, 0]]), False)

    def test_values_that_are_no_rows(self):
        for value in other_values():
            self.assertIs(is_remaining_repair(ONE, "ab", Format.parse("a"), value), False)
        self.assertIs(is_remaining_repair(value=[[0]], text_format=Format.parse(""), text="", prices=ONE), True)

    def test_order_of_the_exceptions(self):
        faults = [(0, value, InvalidPrices, value) for value in not_prices()]
        faults += [(1, value, InvalidText, value) for value in (None, "a b", ["a"], False)]
        faults += [(1, "bca", UnknownLetter, "c")]
        faults += [(2, value, InvalidFormat, value) for value in (None, "a*", [{}], ONE)]
        faults += [(2, Format.parse("y|ax|b"), UnknownLetter, "x"), (2, Format.parse("c*"), UnknownLetter, "c")]
        good = [ONE, "a", Format.parse("a")]
        self.assert_faults(repair, good, faults)
        self.assert_faults(remaining_repairs, good, faults)
        self.assert_faults(is_remaining_repair, good + [None], faults)

    def test_results_are_new(self):
        made = Format.parse("(ab)*")
        rows = remaining_repairs(prices=ONE, text_format=made, text="ab")
        self.assertEqual(rows, [[0, 1], [1, 0], [0, 1]])
        self.assertEqual(len({id(row) for row in rows}), 3)
        rows[0].clear()
        repair(ONE, "ab", made)[1].clear()
        self.assertEqual(remaining_repairs(ONE, "ab", made), [[0, 1], [1, 0], [0, 1]])
        self.assertEqual(repair(prices=ONE, text_format=made, text="ab"), (0, [("a", "a"), ("b", "b")]))


class Closest(Checked):

    def test_example(self):
        self.assertEqual(closest(ONE, Format.parse("aa|bbb"), Format.parse("ab"))[0], 1)

    def test_all_pairs(self):
        for prices in some_prices("ab", 67, 8):
            costs = chain_costs("ab", prices.price)
            for expression, expression_of_other in product(EXPRESSIONS, repeat=2):
                one, other = Format.parse(expression), Format.parse(expression_of_other)
                rows = table_costs(costs, one.rows(), one.accepting(), other.rows(), other.accepting())
                best = rows[0][0] if rows and rows[0] else None
                found = self.assert_script(prices, closest(prices, one, other), best)
                if best is not None:
                    self.assertEqual([found[0] in one, found[1] in other], [True, True])

    def test_against_all_short_texts(self):
        for prices in some_prices("ab", 68, 2):
            costs = chain_costs("ab", prices.price)
            for expression, expression_of_other in product(["0", "", "ab|b", "aa|bbb", "(ba)+", "(aaa)*b?", "b+"], repeat=2):
                some, more = [tree_texts(parse_expression(text), 6) for text in (expression, expression_of_other)]
                result = closest(prices, Format.parse(expression), Format.parse(expression_of_other))
                self.assertEqual(None if result is None else result[0], least_cost_between(costs, some, more))

    def test_formats_without_texts(self):
        none, some = Format.parse("0"), Format.parse("a*")
        for one, other in ((none, some), (some, none), (none, none)):
            self.assertIsNone(closest(ONE, one, other))

    def test_formats_that_no_script_joins(self):
        self.assertIsNone(closest(Prices("ab", {}), Format.parse("a+"), Format.parse("b*")))
        self.assertEqual(closest(other=Format.parse("b*"), one=Format.parse("a*"), prices=Prices("ab", {})), (0, []))

    def test_order_of_the_exceptions(self):
        faults = [(0, value, InvalidPrices, value) for value in not_prices()]
        faults += [(1, value, InvalidFormat, value) for value in (None, "a*", [{}], ONE)]
        faults += [(1, Format.parse("y|ax|b"), UnknownLetter, "x")]
        faults += [(2, value, InvalidFormat, value) for value in (True, "a", (), ONE)]
        faults += [(2, Format.parse("d|c"), UnknownLetter, "c")]
        self.assert_faults(closest, [ONE, Format.parse("a"), Format.parse("a")], faults)


class Guarantees(Checked):

    def test_formats_are_sets_of_texts(self):
        one, other = Format.parse("(a*b)+"), Format([{"a": 2, "b": 1}, {"a": 0, "b": 1}, {"a": 0, "b": 1}], [1])
        for text in ("", "aba", "bbaa"):
            self.assertEqual(repair(ONE, text, one), repair(ONE, text, other))
            self.assertEqual(remaining_repairs(ONE, text, one), remaining_repairs(ONE, text, other))
        self.assertEqual(closest(ONE, one, Format.parse("aaa")), closest(ONE, other, Format.parse("aaa")))

    def test_renamed_letters(self):
        names = {"a": "z", "b": "k"}
        for prices in some_prices("ab", 69, 8):
            table = {(names.get(x, x), names.get(y, y)): prices.price(x, y)
                     for x, y in product(["", "a", "b"], repeat=2) if x != y}
            other = Prices("zk", table)
            for expression, text in product(EXPRESSIONS, ("", "ab", "bba")):
                renamed = Format.parse("".join(names.get(sign, sign) for sign in expression))
                results = [repair(prices, text, Format.parse(expression)),
                           repair(other, "".join(names[letter] for letter in text), renamed)]
                self.assertEqual(*[None if result is None else result[0] for result in results])

    def test_a_repair_over_a_third_text_is_not_cheaper(self):
        for prices in some_prices("ab", 70, 8):
            for one, two, three in product(texts_up_to("ab", 2), repeat=3):
                there, back = cheapest_script(prices, one, two), cheapest_script(prices, two, three)
                if there is not None and back is not None:
                    self.assertLessEqual(cheapest_script(prices, one, three)[0], there[0] + back[0])
