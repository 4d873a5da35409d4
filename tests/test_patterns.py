"""Tests of [81] to [85]: patterns, their texts, where they lead, and their shapes."""

import copy
from random import Random

from formatrepair.errors import InvalidFormat, InvalidInteger, InvalidPattern, InvalidPrices, NotStable, TooMany
from formatrepair.errors import UnknownLetter
from formatrepair.formats import Format
from formatrepair.matrices import grow, is_stable, letter_matrix, multiply_shapes, shape_of, text_matrix
from formatrepair.patterns import is_pattern, pattern_end, pattern_length, pattern_shape, pattern_text
from formatrepair.prices import Prices

from drawn import drawn_cases, drawn_patterns
from support import Case, lists_in, not_formats, not_integers, other_values, with_tuples, wrapped
from test_scripts import not_prices

ONE = Prices("ab", {}, default=1)
PAIRS = Format.parse("(ab)*")
NONE = Format.parse("0")


def repeated(pattern):
    return [("repeat", pattern)]


def nested(levels, inside=("a",)):
    return wrapped(list(inside), levels, repeated)


def wrong_items():
    """Return values that are no items of a pattern."""
    values = [value for value in other_values()] + ["", "ab", "A", "é", "repeat", 0, ["a"], ("a",), ("a", "b")]
    inner = [[], (), "a", "", None, 0, True, {}, {"a": "a"}, [["a"]], [("a",)], ["ab"], ("repeat", ["a"]), [None]]
    values += [("repeat", value) for value in inner]
    values += [("repeat",), ("repeat", ["a"], ["a"]), ("repeat", ["a"], 2), ("Repeat", ["a"]), (None, ["a"]), (["a"], "repeat"),
               ["repeat", ["a"]], ("", ["a"]), ("a", ["a"]), {"repeat": ["a"]}, ("repeats", ["a"]), (True, ["a"])]
    return values


def not_patterns():
    """Return values that are no patterns, most of them by one fault at some depth."""
    wrong = [value for value in other_values() if value not in (["a"], ("a",))]
    wrong += ["a", "ab", "", 0, ("repeat", ["a"]), ("repeat", ("a",))]
    for item in wrong_items():
        wrong += [[item], ["a", item], [item, "b"], (item,)]
        for levels in (1, 2, 99):
            wrong.append(nested(levels, ["a", item, "b"]))
            wrong.append(["b", ("repeat", nested(levels, [item])), "a"])
    for levels in (101, 102, 105):
        wrong += [nested(levels), with_tuples(nested(levels)), ["a", ("repeat", nested(levels - 1)), "b"]]
    return wrong


def text_of(pattern, times):
    return "".join([item if isinstance(item, str) else text_of(item[1], times) * times for item in pattern])


def end_of(made, pattern, state):
    for item in pattern:
        if isinstance(item, str):
            state = made.next_state(state, item)
        elif end_of(made, item[1], state) != state:
            return None
        if state is None:
            return None
    return state


def shape_or_fault(prices, made, pattern):
    """Return the shape of a pattern, or its first inner pattern that is not stable, in a list of its own."""
    shapes = []
    for item in pattern:
        if isinstance(item, str):
            shapes.append(shape_of(letter_matrix(prices, made, item)))
        else:
            fault, shape = shape_or_fault(prices, made, item[1])
            if fault:
                return fault, None
            if not is_stable(shape):
                return [item[1]], None
            shapes.append(grow(shape))
    shape = shapes[0]
    for other in shapes[1:]:
        shape = multiply_shapes(shape, other)
    return [], shape


class Forms(Case):

    def test_patterns(self):
        for pattern in drawn_patterns(81, 60) + [["a"], ["z", "q"], nested(1), nested(2), ["a"] * 5000]:
            self.assertIs(is_pattern(pattern), True)
            self.assertIs(is_pattern(value=with_tuples(pattern)), True)
        self.assertIs(is_pattern([("repeat", ("a", ("repeat", ["b"])))]), True)

    def test_nested_one_hundred_deep(self):
        for pattern in (nested(100), ["a", *nested(100, "ab"), "c"], with_tuples(nested(100))):
            self.assertIs(is_pattern(pattern), True)
            self.assertEqual(pattern_length(pattern, 1), len(pattern_text(pattern, 1)))
            self.assertEqual(pattern_end(Format.parse("(a|b)*c?"), pattern), 1 if pattern[-1] == "c" else 0)
        for levels in (101, 104):
            self.assertIs(is_pattern(nested(levels)), False)
            self.assertIs(is_pattern(["b", ("repeat", nested(levels - 1)), "b"]), False)
        for made, shape in ((Format.parse("b*"), [[2]]), (Format.parse("a*"), [[0]]), (NONE, [])):
            self.assertEqual(pattern_shape(ONE, made, nested(100)), shape)
            self.assertEqual(pattern_shape(ONE, made, with_tuples(nested(100))), shape)

    def test_values_that_are_no_patterns(self):
        for value in not_patterns():
            self.assertIs(is_pattern(value), False)
            self.assert_raises(InvalidPattern, value, pattern_length, value, 1)
            self.assert_raises(InvalidPattern, value, pattern_text, value, 0)
            self.assert_raises(InvalidPattern, value, pattern_end, PAIRS, value)
            self.assert_raises(InvalidPattern, value, pattern_end, PAIRS, value, start=9)
            self.assert_raises(InvalidPattern, value, pattern_shape, ONE, PAIRS, value)

    def test_arguments_stay(self):
        pattern = ["a", ("repeat", ["b", ("repeat", ["a"])]), "b"]
        before = copy.deepcopy(pattern)
        is_pattern(pattern), pattern_text(pattern, 3), pattern_length(pattern, 2), pattern_end(PAIRS, pattern)
        self.assertEqual(pattern, before)


class Texts(Case):

    def test_example(self):
        found = [pattern_text(["a", ("repeat", ["b", ("repeat", ["c"])])], 2),
                 pattern_length([("repeat", [("repeat", ["a"])])], 1000)]
        self.assertEqual(found, ["abccbcc", 1000000])

    def test_drawn_patterns(self):
        for pattern in drawn_patterns(82, 80):
            for times in (1, 2, 3, 5):
                text = text_of(pattern, times)
                for value in (pattern, with_tuples(pattern)):
                    self.assertEqual(pattern_length(value, times), len(text))
                    if len(text) <= 4000:
                        self.assertEqual(pattern_text(value, times), text)

    def test_times(self):
        pattern = ["a", ("repeat", ["b"])]
        self.assertEqual([pattern_text(pattern, 1), pattern_length(pattern, 1)], ["ab", 2])
        self.assertEqual([len(pattern_text(times=1000, pattern=pattern)), pattern_length(times=1000, pattern=pattern)],
                         [1001, 1001])
        for value in (0, 1001, -1, 10 ** 30 - 1, *not_integers()):
            self.assert_raises(InvalidInteger, value, pattern_length, pattern, value)
            self.assert_raises(InvalidInteger, value, pattern_text, pattern, value)
            self.assert_raises(InvalidInteger, value, pattern_text, ["a"] * 4001, value)

    def test_texts_of_4000_letters(self):
        for pattern, times in ((["a"] * 4000, 1), ([("repeat", ["a", "b", "b", "a"])], 1000), (["b", "a"] * 2000, 7),
                               ([("repeat", [("repeat", ["a", "b"] * 5)])], 20), (nested(3, "abbab" * 4 + "bbbbb"), 4)):
            length = 1600 if times == 4 else 4000
            self.assertEqual(pattern_length(pattern, times), length)
            self.assertEqual(pattern_text(pattern, times), text_of(pattern, times))
            self.assertEqual(len(pattern_text(pattern, times)), length)

    def test_texts_of_more_letters(self):
        for pattern, times, length in ((["a"] * 4001, 1, 4001), (["b", ("repeat", ["a"] * 4)], 1000, 4001),
                                       ([("repeat", [("repeat", ["a"])])], 1000, 1000000), (nested(3), 16, 4096),
                                       (nested(100), 1000, 1000 ** 100), (nested(12), 2, 4096)):
            with self.assertRaises(TooMany) as caught:
                pattern_text(pattern, times)
            self.assertEqual(caught.exception.count, length)
            self.assertEqual(pattern_length(pattern, times), length)


class Ends(Case):

    def test_example(self):
        found = [pattern_end(Format.parse("(ab)*a"), [("repeat", ["a", "b"]), "a"]),
                 pattern_end(Format.parse("ab*"), [("repeat", ["a"])])]
        self.assertEqual(found, [1, None])

    def test_drawn_patterns(self):
        found = []
        for _, made, _ in drawn_cases(83, 25, sizes=((1, 4), (1, 1))):
            for pattern in drawn_patterns(made.size, 30):
                for start in range(made.size):
                    end = end_of(made, pattern, start)
                    self.assertEqual(pattern_end(made, pattern, start=start), end)
                    self.assertEqual(pattern_end(text_format=made, pattern=with_tuples(pattern), start=start), end)
                    for times in (1, 2):
                        if end is not None:
                            self.assertEqual(made.state_after(text_of(pattern, times), start=start), end)
                    found.append(end)
                self.assertEqual(pattern_end(made, pattern), end_of(made, pattern, 0))
        self.assertGreater(len(set(found)), 3)

    def test_none(self):
        star = Format.parse("(aab)*")
        self.assertIsNone(pattern_end(star, ["b"]))
        self.assertIsNone(pattern_end(star, ["a", "z"]))
        self.assertIsNone(pattern_end(star, [("repeat", ["a", "a"]), "b"]))
        self.assertIsNone(pattern_end(star, ["a", ("repeat", ["a", "b", ("repeat", ["a"]), "a"])]))
        self.assertIsNone(pattern_end(star, [("repeat", [("repeat", ["b"]), "a"])]))
        self.assertEqual(pattern_end(star, ["a", ("repeat", ["a", "b", "a"]), "a"]), 2)
        # Repeated twice, the inner pattern comes back, but not once.
        self.assertIsNone(pattern_end(Format.parse("(aa)*"), [("repeat", ["a"])]))

    def test_order_of_the_exceptions(self):
        faults = [(0, value, InvalidFormat, value) for value in not_formats()]
        faults += [(1, value, InvalidPattern, value) for value in (None, [], ["ab"], "a", [("repeat", [])])]
        faults += [(2, value, InvalidInteger, value) for value in (2, -1, 10 ** 30 - 1, *not_integers())]
        self.assert_faults(lambda made, pattern, start: pattern_end(made, pattern, start=start), [PAIRS, ["a"], 0], faults)
        with self.assertRaises(InvalidInteger) as caught:
            pattern_end(NONE, ["a"])
        self.assertEqual(caught.exception.value, 0)
        with self.assertRaises(TypeError):
            pattern_end(PAIRS, ["a"], 0)


class Shapes(Case):

    def test_example(self):
        self.assertEqual(pattern_shape(ONE, PAIRS, [("repeat", ["a", "a"])]), [[2, 2], [2, 2]])
        self.assert_raises(NotStable, pattern := ["a"], pattern_shape, ONE, PAIRS, ["b", ("repeat", pattern)])

    def test_drawn_patterns(self):
        stable = unstable = 0
        for prices, _, made in drawn_cases(84, 40, sizes=((1, 1), (1, 4))):
            for pattern in drawn_patterns(made.size + 9, 25):
                fault, shape = shape_or_fault(prices, made, pattern)
                if fault:
                    self.assert_raises(NotStable, fault[0], pattern_shape, prices, made, pattern)
                    unstable += 1
                else:
                    found = pattern_shape(prices, made, pattern)
                    self.assertEqual(found, shape)
                    self.assertEqual(pattern_shape(pattern=with_tuples(pattern), text_format=made, prices=prices), shape)
                    self.assertEqual(len({id(part) for part in lists_in(found)}), made.size + 1)
                    stable += 1
        self.assertGreater(min(stable, unstable), 100)

    def test_a_format_without_states(self):
        self.assertEqual(pattern_shape(ONE, NONE, ["a", ("repeat", ["b", ("repeat", ["a"])])]), [])

    def test_unstable_repetitions_end_in_order(self):
        inner, other = ["a"], ["b"]
        outer = ["a", ("repeat", inner), "b"]
        self.assert_raises(NotStable, inner, pattern_shape, ONE, PAIRS, [("repeat", outer)])
        self.assert_raises(NotStable, inner, pattern_shape, ONE, PAIRS, [("repeat", outer), ("repeat", other)])
        self.assert_raises(NotStable, other, pattern_shape, ONE, PAIRS, [("repeat", other), ("repeat", outer)])
        around = ["a", ("repeat", ["b", "a"])]
        self.assert_raises(NotStable, around, pattern_shape, ONE, PAIRS, [("repeat", around)])
        self.assert_raises(NotStable, around, pattern_shape, ONE, PAIRS, ["b", ("repeat", around), ("repeat", inner)])

    def test_letters_without_a_price_come_first(self):
        unstable = ("repeat", ["a"])
        for pattern, letter in (([unstable, "c"], "c"), (["z", unstable, "c"], "z"), ([unstable, ("repeat", ["a", "d"]), "c"], "d"),
                                ([("repeat", [("repeat", ["b", "y"])]), "x"], "y")):
            found = [part for part in text_of(pattern, 1) if part == letter]
            self.assert_unknown(found[0], pattern_shape, ONE, PAIRS, pattern)
        letter = "xq"[1:]
        self.assert_raises(UnknownLetter, letter, pattern_shape, ONE, PAIRS, ["a", letter])

    def test_order_of_the_exceptions(self):
        faults = [(0, value, InvalidPrices, value) for value in not_prices()]
        faults += [(1, value, InvalidFormat, value) for value in not_formats()]
        faults += [(1, Format.parse("y|ax|b"), UnknownLetter, "x"), (1, Format.parse("c*"), UnknownLetter, "c")]
        faults += [(2, value, InvalidPattern, value) for value in (None, [], ["c", "ab"], "a", [("repeat", [])])]
        unstable = ["a"]
        faults += [(2, [("repeat", unstable), "z"], UnknownLetter, "z"), (2, [("repeat", unstable)], NotStable, unstable)]
        self.assert_faults(pattern_shape, [ONE, PAIRS, ["a"]], faults)


class Matrices(Case):

    def test_what_the_items_say_of_the_texts(self):
        seen = {0: 0, 1: 0, 2: 0, 3: 0}
        random = Random(85)
        for prices, _, made in drawn_cases(85, 60, sizes=((1, 1), (1, 3))):
            for pattern in drawn_patterns(random.randrange(10 ** 6), 12, depth=2):
                fault, shape = shape_or_fault(prices, made, pattern)
                for n in (1, 2, 3):
                    if fault or pattern_length(pattern, n * made.size) > 150:
                        continue
                    matrix = text_matrix(prices, made, pattern_text(pattern, n * made.size))
                    for items, costs in zip(pattern_shape(prices, made, pattern), matrix):
                        for item, cost in zip(items, costs):
                            seen[item] += 1
                            if item == 3:
                                self.assertIsNone(cost)
                            elif item and cost is not None:
                                self.assertGreaterEqual(cost, 1 if item == 1 else n)
        self.assertGreater(min(seen.values()), 100)
