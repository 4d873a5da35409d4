"""Tests of [91] to [94]: comparisons, their members, and their decisions."""

import copy
from itertools import product
from random import Random

from formatrepair.bounds import first_table_error
from formatrepair.comparisons import Comparison
from formatrepair.errors import EmptyFormat, InvalidFormat, InvalidMember, InvalidPrices, TooMany, UnknownLetter
from formatrepair.formats import Format
from formatrepair.matrices import grow, is_stable, letter_matrix, multiply_shapes, shape_of
from formatrepair.onepass import OnePass
from formatrepair.patterns import is_pattern, pattern_end, pattern_length, pattern_shape, pattern_text
from formatrepair.prices import Prices
from formatrepair.repair import repair

from drawn import drawn_cases, drawn_format, drawn_patterns, drawn_prices
from oracle import texts_up_to
from support import Case, lists_in, not_formats, other_values, with_tuples
from test_patterns import not_patterns
from test_scripts import not_prices

ONE = Prices("ab", {}, default=1)
PAIRS = Format.parse("(ab)*")
NONE = Format.parse("0")


def chain(size, letter="a"):
    """Return a format of exactly so many states."""
    return Format.parse(letter * (size - 1))


def cost_of(prices, text, made):
    found = repair(prices, text, made)
    return None if found is None else found[0]


def costs_up_to(prices, first, second, longest):
    """Return the pairs of the texts of the first format up to a length and their costs, in order."""
    return [(text, cost_of(prices, text, second)) for text in texts_up_to(first.letters(), longest) if text in first]


def frozen(shape):
    return tuple(tuple(row) for row in shape)


def members_of(prices, first, second):
    """Return the members as the document defines them, in ascending order."""
    new = {(state, end, frozen(shape_of(letter_matrix(prices, second, letter))))
           for state, row in enumerate(first.rows()) for letter, end in row.items()}
    found = set()
    while new:
        found |= new
        more = set()
        for (p, q, one), (start, r, other) in product(found, repeat=2):
            if q == start:
                more.add((p, r, frozen(multiply_shapes(one, other))))
        for p, q, shape in found:
            if p == q and is_stable(shape):
                more.add((p, p, frozen(grow(shape))))
        new = more - found
    return [(p, q, [list(row) for row in shape]) for p, q, shape in sorted(found)]


class Decided(Case):
    """A test case that looks into decisions."""

    def assert_decision(self, prices, first, second, longest=5):
        """The decision has what its kind asks for, and fits all texts up to a length; returns its kind."""
        comparison = Comparison(prices, first, second)
        decision = comparison.decision()
        self.assertIs(type(decision), tuple)
        costs = costs_up_to(prices, first, second, longest)
        lost = [text for text, cost in costs if cost is None]
        if decision[0] == "impossible":
            self.assertEqual(len(decision), 2)
            self.assertIn(decision[1], first)
            self.assertIsNone(cost_of(prices, decision[1], second))
            self.assertIs(comparison.is_impossible(decision[1]), True)
            if lost or len(decision[1]) <= longest:
                self.assertEqual(decision[1], lost[0])
            return "impossible"
        self.assertEqual(lost, [])
        if decision[0] == "unbounded":
            self.assert_pattern(comparison, decision)
        else:
            self.assert_bound(comparison, decision, costs)
        return decision[0]

    def assert_pattern(self, comparison, decision):
        kind, pattern = decision
        first, second, prices = comparison.first(), comparison.second(), comparison.prices()
        self.assertEqual(kind, "unbounded")
        self.assertIs(is_pattern(pattern), True)
        self.assertIn(pattern_end(first, pattern), first.accepting())
        shape = pattern_shape(prices, second, pattern)
        self.assertEqual(min(shape[0][end] for end in second.accepting()), 2)
        self.assertIs(comparison.is_unbounded(pattern), True)
        for n in (1, 2, 3):
            if pattern_length(pattern, n * second.size) <= 120:
                text = pattern_text(pattern, n * second.size)
                self.assertIn(text, first)
                self.assertGreaterEqual(cost_of(prices, text, second), n)

    def assert_bound(self, comparison, decision, costs):
        kind, cost, text, table = decision
        self.assertEqual(kind, "bounded")
        self.assertIs(type(cost), int)
        self.assertIn(text, comparison.first())
        self.assertEqual(cost_of(comparison.prices(), text, comparison.second()), cost)
        self.assertIsNone(first_table_error(comparison, cost, table))
        if cost:
            self.assertIsNotNone(first_table_error(comparison, cost - 1, table))
        self.assertLessEqual(max([found for _, found in costs], default=0), cost)
        same = [other for other, found in costs if found == cost]
        if same:
            self.assertEqual(text, same[0])


class Made(Case):

    def test_what_was_passed(self):
        first, second = Format.parse("a*b"), Format.parse("b*")
        made = Comparison(ONE, first, second)
        self.assertIs(made.prices(), ONE)
        self.assertIs(made.first(), first)
        self.assertIs(made.second(), second)
        named = Comparison(second=second, first=first, prices=ONE)
        self.assertEqual(made, named)
        self.assertIs(type(repr(made)), str)

    def test_equality(self):
        made = Comparison(ONE, PAIRS, Format.parse("a*"))
        same = Comparison(Prices("ba", {("a", "b"): 1}, default=1), Format([{"a": 1}, {"b": 2}, {"a": 1}], [0, 2]),
                          Format.parse("(a|aa)*"))
        self.assertIs(made == same, True)
        self.assertIs(made != same, False)
        for other in (Comparison(Prices("abc", {}, default=1), PAIRS, Format.parse("a*")),
                      Comparison(ONE, Format.parse("a*"), PAIRS), Comparison(ONE, PAIRS, PAIRS),
                      Comparison(ONE, Format.parse("(ab)+"), Format.parse("a*")), *other_values(), OnePass(made)):
            self.assertIs(made == other, False)
            self.assertIs(made != other, True)

    def test_sizes(self):
        made = Comparison(ONE, chain(12), chain(6, "b"))
        self.assertEqual([made.first().size, made.second().size], [12, 6])
        self.assertEqual(made.decision()[:3], ("bounded", 11, "a" * 11))
        for first, second, count in ((chain(13), chain(6), 13), (chain(40), chain(7), 40), (chain(12), chain(7), 7),
                                     (chain(1), chain(30), 30)):
            with self.assertRaises(TooMany) as caught:
                Comparison(ONE, first, second)
            self.assertEqual(caught.exception.count, count)

    def test_order_of_the_exceptions(self):
        faults = [(0, value, InvalidPrices, value) for value in not_prices()]
        for place in (1, 2):
            faults += [(place, value, InvalidFormat, value) for value in not_formats()]
            faults += [(place, Format.parse("y|ax|b"), UnknownLetter, "x"), (place, Format.parse("c*"), UnknownLetter, "c")]
        self.assert_faults(Comparison, [ONE, PAIRS, PAIRS], faults)
        for second in (PAIRS, NONE, chain(7)):
            with self.assertRaises(EmptyFormat):
                Comparison(ONE, NONE, second)
        self.assert_unknown("z", Comparison, ONE, NONE, Format.parse("z"))
        self.assert_unknown("c", Comparison, ONE, chain(13, "c"), chain(7))
        self.assert_unknown("c", Comparison, ONE, chain(13), chain(7, "c"))


class Members(Case):

    def test_example(self):
        case = Comparison(ONE, Format.parse("a*"), Format.parse("b*"))
        self.assertEqual([case.members(), pattern_end(case.first(), case.pattern_of((0, 0, [[2]])))],
                         [[(0, 0, [[1]]), (0, 0, [[2]])], 0])

    def assert_members(self, prices, first, second):
        comparison = Comparison(prices, first, second)
        members = members_of(prices, first, second)
        self.assertEqual(comparison.members(), members)
        for member in members:
            start, end, shape = member
            pattern = comparison.pattern_of(member)
            self.assertIs(is_pattern(pattern), True)
            self.assertEqual(pattern_end(first, pattern, start=start), end)
            self.assertEqual(pattern_shape(prices, second, pattern), shape)
        return members

    def test_drawn_formats(self):
        sizes = []
        for prices, first, second in drawn_cases(92, 40, sizes=((1, 3), (1, 2))) + drawn_cases(93, 25, sizes=((2, 3), (2, 3))):
            sizes.append(len(self.assert_members(prices, first, second)))
        self.assertGreater(max(sizes), 100)

    def test_more_letters(self):
        for prices, first, second in drawn_cases(94, 12, "abc", ((1, 3), (1, 2))):
            self.assert_members(prices, first, second)

    def test_the_empty_text_alone_has_no_members(self):
        self.assertEqual(Comparison(ONE, Format.parse(""), PAIRS).members(), [])

    def test_an_empty_second_format(self):
        self.assertEqual(self.assert_members(ONE, PAIRS, NONE), [(p, q, []) for p in range(2) for q in range(2)])
        self.assertEqual(self.assert_members(ONE, Format.parse("ab?"), NONE), [(0, 1, []), (0, 2, []), (1, 2, [])])

    def test_a_pattern_is_found_for_tuples_and_before_the_members(self):
        for prices, first, second in drawn_cases(95, 10, sizes=((2, 3), (2, 2))):
            members = Comparison(prices, first, second).members()
            late = Comparison(prices, first, second)
            late.decision(), late.members()
            for member in members[::5]:
                fresh = Comparison(prices, first, second)
                pattern = fresh.pattern_of(member=(member[0], member[1], with_tuples(member[2])))
                self.assertEqual(pattern, late.pattern_of(member))

    def test_results_are_new(self):
        comparison = Comparison(ONE, PAIRS, Format.parse("a*b"))
        members = comparison.members()
        before = copy.deepcopy(members)
        found = lists_in(members)
        self.assertEqual(len({id(part) for part in found}), len(found))
        for member in before:
            pattern = comparison.pattern_of(member)
            again = copy.deepcopy(pattern)
            parts = lists_in(pattern)
            self.assertEqual(len({id(part) for part in parts}), len(parts))
            for part in parts:
                part.clear()
            self.assertEqual(comparison.pattern_of(member), again)
        for part in found:
            part.clear()
        self.assertEqual(comparison.members(), before)

    def test_values_that_are_no_members(self):
        comparison = Comparison(ONE, Format.parse("ab?"), PAIRS)
        members = comparison.members()
        self.assertIn((0, 1, shape := [[1, 0], [1, 1]]), members)
        wrong = other_values() + [(0, 1), (0, 1, shape, 0), [0, 1, shape], (1, 0, shape), (0, 3, shape), (-1, 1, shape), (0, 1, []),
                                  (False, 1, shape), (0, True, shape), (0, 1, [[1, False], [1, 1]]), (0, 1, [[True, 0], [1, 1]]),
                                  (0, 1, [[1, 0]]), (0, 1, [[1, 0], [1, 4]]), (0, 1, [[1, 0], [1, None]]), (0, 1, [[1, 0], [1, 2]]),
                                  (0, 1, [[1, 0], [1, 1], [1, 1]]), (0, 1, None), (0, 1, "ab"), (0, 0, shape), (None, 1, shape),
                                  ("0", 1, shape), (0, 13, shape), (10 ** 30 - 1, 1, shape), (0, 1, {0: [1, 0], 1: [1, 1]})]
        for value in wrong:
            self.assert_raises(InvalidMember, value, comparison.pattern_of, value)
        shapes = [[list(row) for row in items] for items in product(product(range(4), repeat=2), repeat=2)]
        for p, q, shape in product(range(3), range(3), shapes):
            if (p, q, shape) not in members:
                self.assert_raises(InvalidMember, value := (p, q, shape), comparison.pattern_of, value)


class Decisions(Decided):

    def test_examples(self):
        self.assertEqual(Comparison(ONE, Format.parse("(ab)*"), Format.parse("(ba)*")).decision()[:3], ("bounded", 2, "ab"))
        self.assertEqual(Comparison(Prices("ab", {}), Format.parse("a*b?"), Format.parse("a*")).decision(), ("impossible", "b"))

    def known(self, prices, first, second):
        made = Format.parse(first), Format.parse(second)
        self.assert_decision(prices, *made)
        decision = Comparison(prices, *made).decision()
        return decision[:3] if decision[0] == "bounded" else decision[:2]

    def test_known_bounds(self):
        for first, second, cost, text in (("", "", 0, ""), ("a", "a", 0, "a"), ("a*", "a*", 0, ""), ("", "ab", 2, ""), ("a*", "a+", 1, ""),
                                          ("a*b?", "a*", 1, "b"), ("(a|b)*", "((a|b)(a|b))*", 1, "a"), ("(ab)*", "(ba)*", 2, "ab"),
                                          ("a*", "b*|a*", 0, ""), ("aaa|aab|abb", "a*", 2, "abb"), ("(ab)*", "(ab)*ab", 2, ""),
                                          ("(a|b)*", "(a|b)*bbb", 3, ""), ("b*", "(bbbb)*", 2, "bb"), ("a*b*", "a*b*a*b*", 0, "")):
            self.assertEqual(self.known(ONE, first, second), ("bounded", cost, text))

    def test_known_unbounded(self):
        for first, second in (("a*", "b*"), ("(a|b)*", "a*"), ("(a|b)*", "a*b*"), ("a*", ""), ("(a|b)*", "(ab)*"), ("a*b*a*", "a*b*"),
                              ("b(aab)*", "b(ab)*"), ("a*", "aaaa|b")):
            self.assertEqual(self.known(ONE, first, second)[0], "unbounded")

    def test_two_repetitions_one_after_the_other(self):
        # Either repetition alone is repaired for a bounded cost, by the other alternative.
        decision = Comparison(ONE, Format.parse("a*b*"), Format.parse("a*|b*")).decision()
        self.assertEqual(decision[0], "unbounded")
        self.assertEqual(len([item for item in decision[1] if not isinstance(item, str)]), 2)

    def test_repetitions_within_repetitions(self):
        # A text costs as much as it has letters b, or as one of its inner rows of letters a is long.
        prices = Prices("abcde", {("a", "c"): 1, ("a", "d"): 0, ("b", "e"): 1})
        second = Format.parse("(d|e)*|(a|b)*bcc*b(a|b)*")
        self.assertEqual([cost_of(prices, "aaab" * 5, second), cost_of(prices, "aaab" * 2, second)], [3, 2])
        self.assertEqual(self.assert_decision(prices, Format.parse("(aa*b)*"), second), "unbounded")
        comparison = Comparison(prices, Format.parse("(aa*b)*"), second)
        self.assertIs(comparison.is_unbounded([("repeat", ["a", ("repeat", ["a"]), "b"] * 2)]), True)
        self.assertIs(comparison.is_unbounded([("repeat", ["a", ("repeat", ["a"]), "b"])]), False)
        flat = [pattern for pattern in drawn_patterns(931, 3000, depth=1) if pattern_end(comparison.first(), pattern) == 0]
        self.assertGreater(len(flat), 100)
        self.assertEqual([pattern for pattern in flat if comparison.is_unbounded(pattern)], [])
        self.assertEqual(self.known(prices, "(ab|aab)*", "(d|e)*|(a|b)*bcc*b(a|b)*"), ("bounded", 2, "abaab"))
        self.assertEqual(self.known(prices, "(aaab|aab|b)b*", "(d|e)*|(a|b)*bcc*b(a|b)*")[0], "unbounded")

    def test_known_impossible(self):
        keep = Prices("abc", {("a", "b"): 1, ("b", "a"): 1})
        for first, second, text in (("a*", "0", ""), ("aa|b", "0", "b"), ("(a|b)*", "aa", ""), ("(a|b)(a|b)c*", "(a|b)(a|b)c?", "aacc"),
                                    ("a*c?", "b*", "c"), ("b|ac|bca", "(a|c)*b", "ac")):
            self.assertEqual(self.known(keep, first, second), ("impossible", text))
        self.assertEqual(self.known(ONE, "bb|ab", "0"), ("impossible", "ab"))
        self.assertEqual(self.known(keep, "aaab|ab*", "(aa)*"), ("impossible", "a"))

    def test_drawn_formats(self):
        kinds = []
        for case in drawn_cases(90, 150) + drawn_cases(91, 60, "abc", ((2, 4), (1, 3))) + drawn_cases(92, 25, sizes=((3, 6), (3, 5))):
            kinds.append(self.assert_decision(*case, longest=5 if len(case[1].letters()) < 3 else 4))
        for kind in ("impossible", "unbounded", "bounded"):
            self.assertGreater(kinds.count(kind), 8)

    def test_large_formats(self):
        random = Random(126)
        kinds = []
        for letters in ("ab", "abc", "ab", "ab", "abc", "abcdef"):
            prices = drawn_prices(random, letters)
            first, second = drawn_format(random, letters, 12), drawn_format(random, letters, 6)
            kinds.append(self.assert_decision(prices, first, second, longest=2))
        self.assertGreater(len(set(kinds)), 1)

    def test_great_bounds(self):
        nine = Prices("ab", {("a", ""): 9})
        self.assertEqual(self.known(nine, "a" * 11 + "|aa", ""), ("bounded", 99, "a" * 11))
        self.assertEqual(self.known(Prices("ab", {("", "a"): 9}), "b+", "b*aba"), ("bounded", 18, "b"))
        chained = Prices("abcdef", {(x, y): 9 for x, y in zip(["", *"abcde"], "abcdef")})
        self.assertEqual(self.known(chained, "a*", "a*fffff"), ("bounded", 5 * 54, ""))
        self.assertEqual(self.known(chained, "aaaaa(aaaaa)?", "f*"), ("bounded", 450, "a" * 10))

    def test_results_are_new_and_stay_the_same(self):
        for first, second in (("(ab)*", "(ba)*"), ("a*b*", "a*|b*"), ("a*", "0")):
            comparison = Comparison(ONE, Format.parse(first), Format.parse(second))
            decision = comparison.decision()
            before = copy.deepcopy(decision)
            parts = lists_in(decision)
            self.assertEqual(len({id(part) for part in parts}), len(parts))
            for part in parts:
                part.clear()
            comparison.members()
            self.assertEqual(comparison.decision(), before)
            other = Comparison(ONE, Format.parse(first), Format.parse(second))
            other.members()
            self.assertEqual(other.decision(), before)


class Certificates(Case):

    def test_example(self):
        case = Comparison(ONE, Format.parse("a*"), Format.parse("b*"))
        found = [Comparison(ONE, Format.parse("a*"), PAIRS).is_unbounded([("repeat", ["a", "a"])]), case.is_unbounded(["a"])]
        self.assertEqual(found, [True, False])

    def test_texts_that_cannot_be_repaired(self):
        for prices, first, second in drawn_cases(941, 60):
            comparison = Comparison(prices, first, second)
            for text in texts_up_to("abc", 3):
                expected = text in first and cost_of(prices, text, second) is None
                self.assertIs(comparison.is_impossible(text), expected)
        self.assertIs(Comparison(Prices("ab", {}), Format.parse("a*b?"), Format.parse("a*")).is_impossible(value="aab"), True)

    def test_values_that_are_no_texts(self):
        comparison = Comparison(Prices("ab", {}), Format.parse("a*"), NONE)
        for value in [value for value in other_values() + [["a"], ("a",), "A", "a b", "b", "ab", "zz"] if value != ""]:
            self.assertIs(comparison.is_impossible(value), False)
        self.assertIs(comparison.is_impossible("a" * 400), True)

    def test_patterns(self):
        seen = []
        for prices, first, second in drawn_cases(942, 90):
            comparison = Comparison(prices, first, second)
            for pattern in drawn_patterns(first.size * 7 + second.size, 40, depth=2):
                end = pattern_end(first, pattern)
                expected = end in first.accepting()
                if expected:
                    try:
                        shape = pattern_shape(prices, second, pattern)
                        expected = min(shape[0][state] for state in second.accepting()) == 2
                    except ValueError:
                        expected = False
                self.assertIs(comparison.is_unbounded(pattern), expected)
                self.assertIs(comparison.is_unbounded(value=with_tuples(pattern)), expected)
                seen.append(expected)
        self.assertGreater(min(seen.count(True), seen.count(False)), 20)

    def test_patterns_whatever_the_decision_is(self):
        pattern = [("repeat", ["a"])]
        comparison = Comparison(Prices("abc", {("a", ""): 1}), Format.parse("a*c?"), Format.parse("b?") & Format.parse(""))
        self.assertEqual(comparison.decision(), ("impossible", "c"))
        self.assertIs(comparison.is_unbounded(pattern), True)
        bounded = Comparison(ONE, Format.parse("a*"), Format.parse("a*"))
        self.assertIs(bounded.is_unbounded(pattern), False)
        # The item is 3: the texts cannot be repaired at all.
        self.assertIs(Comparison(Prices("ab", {}), Format.parse("a*"), Format.parse("b*")).is_unbounded(pattern), False)
        self.assertIs(Comparison(ONE, Format.parse("a*"), NONE).is_unbounded(pattern), False)

    def test_a_shape_that_is_not_stable(self):
        comparison = Comparison(ONE, Format.parse("a*"), PAIRS)
        self.assertIs(comparison.is_unbounded([("repeat", ["a"])]), False)
        self.assertIs(comparison.is_unbounded([("repeat", ["a", "a"])]), True)
        self.assertIs(comparison.is_unbounded([("repeat", [("repeat", ["a"])])]), False)

    def test_values_that_are_no_patterns(self):
        comparison = Comparison(ONE, Format.parse("(a|b)*"), Format.parse(""))
        for value in not_patterns():
            self.assertIs(comparison.is_unbounded(value), False)
        for pattern in (["c"], [("repeat", ["c"])], [("repeat", ["a"]), "c"], ["z", ("repeat", ["a"])]):
            self.assertIs(comparison.is_unbounded(pattern), False)
        self.assertIs(comparison.is_unbounded([("repeat", ["a"])]), True)
