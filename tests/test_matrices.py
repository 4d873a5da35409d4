"""Tests of [71] to [73]: cost matrices, shapes and their products, and growing shapes."""

import copy
from itertools import product
from random import Random

from formatrepair.errors import InvalidFormat, InvalidLetter, InvalidMatrix, InvalidPrices, InvalidText, NotStable
from formatrepair.errors import UnknownLetter
from formatrepair.formats import Format
from formatrepair.matrices import grow, insertion_matrix, is_stable, letter_matrix, multiply_costs, multiply_shapes
from formatrepair.matrices import shape_of, text_matrix
from formatrepair.prices import Prices
from formatrepair.repair import repair

from oracle import chain_costs, chain_rows, table_costs, texts_up_to
from support import Case, other_values, with_tuples
from test_prices import example
from test_repair import some_prices
from test_scripts import not_prices

ONE = Prices("ab", {}, default=1)
PAIRS = Format.parse("(ab)*")
NONE = Format.parse("0")
EXPRESSIONS = ["0", "", "a", "b*", "(ab)*", "a|bb", "(a|b)*b", "b(aab)*a"]


def not_square():
    """Return values that are neither cost matrices nor shapes, most of them by one fault."""
    wrong = [value for value in other_values() if value not in ([], ())]
    good = [[0, 1], [2, 3]]
    wrong += [good[:1], good + [[0, 1]], [good], [0, 1, 2, 3], [[0, 1, 2], [0, 1, 2]], [[0], [1]], [[0, 1]], [[0, 1], []],
              [[0, 1], [0]], [[0, 1, 1], [0, 1]], [[0, 1], [0, 1, 2]], [[], []], {0: [0, 1]}, "ab", ["ab", "cd"]]
    for i, j in product(range(2), repeat=2):
        for item in (-1, True, False, "0", "", "a", [0], (0,), [], {}, -(10 ** 30 - 1), PAIRS):
            wrong.append([[item if (i, j) == (k, m) else good[k][m] for m in range(2)] for k in range(2)])
    for row in (None, 0, "ab", {}, {0: 0, 1: 1}, PAIRS):
        wrong += [[row, [0, 1]], [[0, 1], row]]
    return wrong


def not_costs():
    return not_square() + [[[0, 1], [2, "none"]]]


def not_shapes():
    return not_square() + [[[4]], [[None]], [[0, 1], [2, 4]], [[0, None], [2, 3]], [[10 ** 30 - 1]]]


def all_shapes(size):
    """Return all shapes of a size."""
    rows = [list(row) for row in product(range(4), repeat=size)]
    return [[list(row) for row in shape] for shape in product(rows, repeat=size)]


def shapes_at_random(seed, size, many):
    random = Random(seed)
    return [[[random.randrange(4) for _ in range(size)] for _ in range(size)] for _ in range(many)]


def costs_at_random(seed, size, many):
    random = Random(seed)
    items = [0, 0, 1, 2, 9, 17, 10 ** 30 - 1, None, None]
    return [[[random.choice(items) for _ in range(size)] for _ in range(size)] for _ in range(many)]


def shape_product(one, other):
    size = range(len(one))
    return [[min(max(one[i][k], other[k][j]) for k in size) for j in size] for i in size]


def cost_product(one, other):
    size = range(len(one))
    sums = [[[one[i][k] + other[k][j] for k in size if one[i][k] is not None and other[k][j] is not None]
             for j in size] for i in size]
    return [[min(items) if items else None for items in row] for row in sums]


def grown(shape):
    size = range(len(shape))
    middle = [2 if shape[k][k] == 1 else shape[k][k] for k in size]
    return [[min(max(shape[i][k], middle[k], shape[k][j]) for k in size) for j in size] for i in size]


def stable_from(shape):
    """Return the first power of a shape that is stable, or None if there is none."""
    power, seen = shape, []
    while power not in seen:
        if shape_product(power, power) == power:
            return power
        seen.append(power)
        power = shape_product(power, shape)
    return None


class OfTexts(Case):

    def test_example(self):
        found = [insertion_matrix(ONE, PAIRS), letter_matrix(ONE, PAIRS, "a"), text_matrix(ONE, PAIRS, "aa")]
        self.assertEqual(found, [[[0, 1], [1, 0]], [[1, 0], [1, 1]], [[1, 1], [2, 1]]])

    def expected(self, costs, made, text):
        """Return the matrix of a text, column by column from the least costs to one state alone."""
        columns = [table_costs(costs, chain_rows(text), [len(text)], made.rows(), [end])[0] for end in range(made.size)]
        return [[column[start] for column in columns] for start in range(made.size)]

    def test_against_tables(self):
        for prices in some_prices("ab", 71, 6) + [example()]:
            costs = chain_costs("ab", prices.price)
            for expression in EXPRESSIONS:
                made = Format.parse(expression)
                for text in ("", "a", "b", "ab", "abba"):
                    self.assertEqual(text_matrix(prices, made, text), self.expected(costs, made, text))

    def test_letters_and_the_empty_text(self):
        for prices in some_prices("ab", 72, 4):
            for expression in EXPRESSIONS:
                made = Format.parse(expression)
                for letter in "ab":
                    self.assertEqual(letter_matrix(prices, made, letter), text_matrix(prices, made, letter))
                self.assertEqual(insertion_matrix(prices, made), text_matrix(prices, made, ""))

    def test_joined_texts_and_products(self):
        for prices in some_prices("ab", 73, 5):
            for expression in EXPRESSIONS:
                made = Format.parse(expression)
                matrices = {text: text_matrix(prices, made, text) for text in texts_up_to("ab", 4)}
                for one, other in product(texts_up_to("ab", 2), repeat=2):
                    joined = multiply_costs(matrices[one], matrices[other])
                    self.assertEqual(joined, matrices[one + other])
                    shape = multiply_shapes(shape_of(matrices[one]), shape_of(matrices[other]))
                    self.assertEqual(shape, shape_of(matrices[one + other]))

    def test_a_repair_is_the_least_item_of_row_0_and_the_accepting_columns(self):
        for prices in some_prices("ab", 74, 5):
            for expression in EXPRESSIONS:
                made = Format.parse(expression)
                for text in texts_up_to("ab", 3):
                    matrix = text_matrix(prices, made, text)
                    items = [matrix[0][end] for end in made.accepting() if matrix[0][end] is not None]
                    result = repair(prices, text, made)
                    self.assertEqual(min(items, default=None), None if result is None else result[0])

    def test_a_format_without_states(self):
        found = [insertion_matrix(ONE, NONE), letter_matrix(ONE, NONE, "a"), text_matrix(ONE, NONE, "abab")]
        self.assertEqual(found, [[], [], []])

    def test_long_texts(self):
        text = "aab" * 133
        half = text_matrix(ONE, PAIRS, "aab" * 66)
        self.assertEqual(text_matrix(ONE, PAIRS, text), multiply_costs(half, multiply_costs(half, text_matrix(ONE, PAIRS, "aab"))))

    def test_six_letters(self):
        prices = Prices("abcdef", {(x, y): 9 for x, y in zip(["", *"abcde"], "abcdef")})
        found = letter_matrix(prices, Format.parse("f*"), "b"), insertion_matrix(prices, Format.parse("bf*"))
        self.assertEqual(found, ([[36]], [[0, 18], [None, 0]]))

    def test_order_of_the_exceptions(self):
        faults = [(0, value, InvalidPrices, value) for value in not_prices()]
        faults += [(1, value, InvalidFormat, value) for value in other_values() if not isinstance(value, Format)]
        faults += [(1, Format.parse("y|ax|b"), UnknownLetter, "x"), (1, Format.parse("c*"), UnknownLetter, "c")]
        texts = [(2, value, InvalidText, value) for value in (None, "a b", ["a"], False)]
        texts += [(2, "abza", UnknownLetter, "z")]
        letters = [(2, value, InvalidLetter, value) for value in other_values() + ["", "ab", "zz", ["a"]]]
        letters += [(2, "z", UnknownLetter, "z")]
        for made in (PAIRS, NONE):
            self.assert_faults(insertion_matrix, [ONE, made], faults)
            self.assert_faults(text_matrix, [ONE, made, "a"], faults + texts)
            self.assert_faults(letter_matrix, [ONE, made, "a"], faults + letters)
        letter = "xz"[1:]
        self.assert_raises(UnknownLetter, letter, letter_matrix, ONE, PAIRS, letter)

    def test_by_name_and_modified_results(self):
        for call, named in ((insertion_matrix, {}), (letter_matrix, {"letter": "a"}), (text_matrix, {"text": "aa"})):
            matrix = call(text_format=PAIRS, prices=ONE, **named)
            before = copy.deepcopy(matrix)
            self.assertEqual(len({id(row) for row in matrix}), 2)
            matrix[0][0] = 7
            matrix[1].clear()
            self.assertEqual(call(ONE, PAIRS, *named.values()), before)


class Products(Case):

    def test_example(self):
        found = [shape_of([[0, 7], [None, 1]]), multiply_shapes([[1, 0], [1, 1]], [[1, 0], [1, 1]])]
        self.assertEqual(found, [[[0, 1], [3, 1]], [[1, 1], [1, 1]]])

    def test_multiply_costs(self):
        for size in range(5):
            matrices = costs_at_random(size, size, 12)
            for one, other in product(matrices, repeat=2):
                expected = cost_product(one, other)
                self.assertEqual(multiply_costs(one, other), expected)
                self.assertEqual(multiply_costs(with_tuples(one), with_tuples(other)), expected)
        self.assertEqual(multiply_costs(other=[[2]], one=[[3]]), [[5]])
        self.assertEqual(multiply_costs([[10 ** 30 - 1]], [[10 ** 30 - 1]]), [[2 * 10 ** 30 - 2]])
        self.assertEqual(multiply_costs([[0, None], [None, None]], [[None, 4], [0, 0]]), [[None, 4], [None, None]])

    def test_shape_of(self):
        for size in range(5):
            for matrix in costs_at_random(size, size, 20):
                expected = [[3 if item is None else min(item, 1) for item in row] for row in matrix]
                self.assertEqual(shape_of(matrix), expected)
                self.assertEqual(shape_of(matrix=with_tuples(matrix)), expected)

    def test_multiply_shapes(self):
        for one, other in product(all_shapes(1) + shapes_at_random(2, 2, 60), repeat=2):
            if len(one) == len(other):
                self.assertEqual(multiply_shapes(one, other), shape_product(one, other))
                self.assertEqual(multiply_shapes(with_tuples(one), with_tuples(other)), shape_product(one, other))
        for one, other in product(shapes_at_random(3, 3, 12), repeat=2):
            self.assertEqual(multiply_shapes(other=other, one=one), shape_product(one, other))

    def test_the_shape_of_a_product(self):
        for size in range(4):
            for one, other in product(costs_at_random(size + 10, size, 12), repeat=2):
                self.assertEqual(shape_of(multiply_costs(one, other)), multiply_shapes(shape_of(one), shape_of(other)))

    def test_matrices_of_a_format_without_states(self):
        for empty in ([], ()):
            self.assertEqual([multiply_costs(empty, empty), shape_of(empty), multiply_shapes(empty, empty), grow(empty)],
                             [[], [], [], []])
            self.assertIs(is_stable(empty), True)

    def test_values_that_are_no_matrices(self):
        for value in not_costs():
            self.assert_raises(InvalidMatrix, value, shape_of, value)
            self.assert_raises(InvalidMatrix, value, multiply_costs, value, [[0, 1], [2, None]])
            self.assert_raises(InvalidMatrix, value, multiply_costs, value, None)
            self.assert_raises(InvalidMatrix, value, multiply_costs, [[0, 1], [2, None]], value)
        for value in not_shapes():
            self.assert_raises(InvalidMatrix, value, multiply_shapes, value, [[0, 1], [2, 3]])
            self.assert_raises(InvalidMatrix, value, multiply_shapes, value, None)
            self.assert_raises(InvalidMatrix, value, multiply_shapes, [[0, 1], [2, 3]], value)
            self.assert_raises(InvalidMatrix, value, is_stable, value)
            self.assert_raises(InvalidMatrix, value, grow, value)

    def test_two_sizes(self):
        sizes = [[], [[0]], [[0, 1], [2, 3]], [[1] * 3] * 3, ()]
        for one, other in product(sizes, repeat=2):
            if len(one) != len(other):
                for call in (multiply_costs, multiply_shapes):
                    self.assert_raises(InvalidMatrix, other, call, one, other)

    def test_arguments_stay_and_results_are_new(self):
        matrix = [[0, 1], [2, 3]]
        for result in (multiply_costs(matrix, matrix), shape_of(matrix), multiply_shapes(matrix, matrix),
                       grow([[0, 1], [3, 3]])):
            self.assertEqual(len({id(row) for row in result}), 2)
            result[0].clear()
        self.assertEqual(matrix, [[0, 1], [2, 3]])
        self.assertEqual(shape_of(matrix), [[0, 1], [1, 1]])


class Growing(Case):

    def test_example(self):
        self.assertEqual([grow([[1, 1], [1, 1]]), grow([[0, 1], [3, 1]])], [[[2, 2], [2, 2]], [[0, 1], [3, 2]]])

    def test_one_state(self):
        self.assertEqual([grow([[item]]) for item in range(4)], [[[0]], [[2]], [[2]], [[3]]])

    def assert_growing(self, shape):
        stable = shape_product(shape, shape) == shape
        self.assertIs(is_stable(shape), stable)
        self.assertIs(is_stable(shape=with_tuples(shape)), stable)
        if stable:
            result = grow(shape)
            self.assertEqual(result, grown(shape))
            self.assertEqual(grow(shape=with_tuples(shape)), result)
            self.assertIs(is_stable(result), True)
            self.assertEqual(grow(result), result)
        else:
            self.assert_raises(NotStable, shape, grow, shape)
            made = with_tuples(shape)
            self.assert_raises(NotStable, made, grow, made)

    def test_all_shapes_of_one_and_two_states(self):
        for shape in all_shapes(1) + all_shapes(2):
            self.assert_growing(shape)

    def test_larger_shapes(self):
        many = 0
        for size in (3, 4, 6):
            for shape in shapes_at_random(73 + size, size, 60):
                self.assert_growing(shape)
                stable = stable_from(shape)
                if stable is not None:
                    self.assert_growing(stable)
                    many += 1
        self.assertGreater(many, 50)

    def test_the_order_of_the_exceptions(self):
        for value in ([[1, 0], [1, 4]], [[1, 0], [1, None]], [[1, 0], [1]]):
            self.assert_raises(InvalidMatrix, value, grow, value)
        self.assert_raises(NotStable, value := [[1, 0], [1, 1]], grow, value)
