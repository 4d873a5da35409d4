"""Tests of [101] to [103]: tables of bounds, expensive texts, and the costs of the texts of a length."""

import copy
from collections import Counter
from random import Random

from formatrepair.bounds import cost_counts, costliest_text, expensive, first_table_error, greatest_cost
from formatrepair.comparisons import Comparison
from formatrepair.errors import InvalidComparison, InvalidInteger, InvalidList, MissingText
from formatrepair.formats import Format
from formatrepair.listing import count_texts
from formatrepair.matrices import insertion_matrix, letter_matrix
from formatrepair.prices import Prices

from drawn import drawn_cases
from oracle import texts_up_to
from support import Case, not_integers, other_values, with_tuples
from test_comparisons import ONE, PAIRS, costs_up_to

NONE = Format.parse("0")


def example():
    return Comparison(ONE, Format.parse("a*b?"), Format.parse("a*"))


def not_comparisons():
    return [*other_values(), "a", 0, Comparison]


def endless(cost):
    return 10 ** 40 if cost is None else cost


def table_error(comparison, cost, table):
    """Return the first error of a table, as the document tells."""
    first, second = comparison.first(), comparison.second()
    states = range(second.size)
    insertions = insertion_matrix(comparison.prices(), second)
    if not any(state == 0 and all(costs[j] is None or costs[j] >= endless(insertions[0][j]) for j in states)
               for state, costs in table):
        return ("start",)
    for number, (state, costs) in enumerate(table):
        for letter, behind in sorted(first.rows()[state].items()):
            m = letter_matrix(comparison.prices(), second, letter)
            if not any(other == behind and all(c[j] is None or any(endless(costs[i]) + endless(m[i][j]) <= c[j] for i in states)
                                               for j in states) for other, c in table):
                return ("letter", number, letter)
        if state in first.accepting() and not any(endless(costs[j]) <= cost for j in second.accepting()):
            return ("end", number)
    return None


def bounded_cases(seed, many, **named):
    """Return comparisons with their decisions, all of them bounded."""
    made = [Comparison(*case) for case in drawn_cases(seed, many, **named)]
    return [(comparison, comparison.decision()) for comparison in made if comparison.decision()[0] == "bounded"]


class Tables(Case):

    def test_example(self):
        case = example()
        found = [first_table_error(case, 1, [(0, [0]), (1, [1])]), first_table_error(case, 0, [(0, [0]), (1, [1])]),
                 first_table_error(case, 1, [(0, [0])])]
        self.assertEqual(found, [None, ("end", 1), ("letter", 0, "b")])

    def test_each_error_alone_and_two_at_once(self):
        case = example()
        for table, cost, error in (([], 0, ("start",)), ([(1, [1])], 5, ("start",)), ([(1, [0]), (0, [0])], 5, ("letter", 1, "b")),
                                   ([(0, [0]), (1, [None])], 9, ("end", 1)), ([(0, [None]), (1, [None])], 9, ("end", 0)),
                                   ([(0, [None]), (1, [1])], 9, ("letter", 0, "b")),
                                   ([(0, [1]), (1, [1])], 9, ("letter", 0, "b")), ([(0, [1])], 0, ("letter", 0, "b")),
                                   ([(0, [0]), (1, [0])], 9, ("letter", 0, "b")), ([(0, [1]), (1, [2])], 0, ("end", 0)),
                                   ([(0, [1]), (1, [2])], 1, ("end", 1)), ([(0, [1]), (1, [2])], 2, None),
                                   ([(1, [3]), (0, [0])], 2, ("end", 0)), ([(1, [3]), (0, [2])], 3, None),
                                   ([(0, [3]), (1, [2])], 3, ("letter", 0, "b")), ([(0, [3]), (1, [None])], 3, ("end", 1))):
            self.assertEqual(first_table_error(case, cost, table), error)
            self.assertEqual(first_table_error(table=with_tuples(table), cost=cost, comparison=case), error)

    def test_the_start_asks_for_insertions(self):
        case = Comparison(ONE, Format.parse(""), PAIRS)
        for costs, error in (([0, 1], None), ([1, None], None), ([None, 1], ("end", 0)), ([0, 0], ("start",)), ([0, 7], None)):
            self.assertEqual(first_table_error(case, 9, [(0, costs)]), error)
        fixed = Comparison(Prices("ab", {}), Format.parse(""), PAIRS)
        for costs, error in (([0, None], None), ([0, 9], ("start",)), ([None, None], ("end", 0))):
            self.assertEqual(first_table_error(fixed, 9, [(0, costs)]), error)

    def test_an_empty_second_format(self):
        case = Comparison(ONE, Format.parse("ab?"), NONE)
        self.assertEqual(first_table_error(case, 10 ** 29, [(0, []), (1, []), (2, [])]), ("end", 1))
        self.assertEqual(first_table_error(case, 0, [(0, ()), (2, [])]), ("letter", 0, "a"))
        self.assertEqual(first_table_error(case, 0, []), ("start",))

    def changed_tables(self, random, table):
        """Return the table and others like it, with one or two things otherwise."""
        tables = [table, table[::-1], table + table, [], table[1:], table[:-1]]
        for number, (state, costs) in enumerate(table):
            tables.append(table[:number] + table[number + 1:])
            for place, cost in enumerate(costs):
                for change in (None, 0, 1, endless(cost) + 1 if cost is not None else 7, 10 ** 30 - 1):
                    other = copy.deepcopy(table)
                    other[number][1][place] = change
                    tables.append(other)
        mixed = []
        for _ in range(20):
            other = copy.deepcopy(random.choice(tables))
            random.shuffle(other)
            for state, costs in other:
                if costs and random.random() < 0.3:
                    costs[random.randrange(len(costs))] = random.choice([None, 0, 1, 2, 5])
            mixed.append(other)
        return tables + mixed

    def test_tables_of_drawn_formats(self):
        random = Random(101)
        seen = Counter()
        for comparison, (_, cost, _, table) in bounded_cases(101, 60):
            for other in self.changed_tables(random, table):
                for number in {0, max(cost - 1, 0), cost, cost + 1, 10 ** 30 - 1}:
                    error = first_table_error(comparison, number, other)
                    self.assertEqual(error, table_error(comparison, number, other))
                    seen[error and error[0]] += 1
        self.assertGreater(min(seen[kind] for kind in ("start", "letter", "end", None)), 50)

    def test_a_table_in_another_order_or_with_greater_costs(self):
        for comparison, (_, cost, _, table) in bounded_cases(102, 40):
            self.assertIsNone(first_table_error(comparison, cost, table[::-1]))
            more = [(state, [None if item is None else item + 3 for item in costs]) for state, costs in table]
            self.assertIsNone(first_table_error(comparison, cost + 3, more))
            self.assertIsNone(first_table_error(comparison, cost, table + more[:0] + table))

    def test_tables_of_another_form(self):
        case = Comparison(ONE, Format.parse("a*b?"), PAIRS)
        good = [(0, [0, 1]), (1, [1, None])]
        wrong = [value for value in other_values() if value not in ([], ())]
        wrong += [{0: [0, 1]}, "ab", (0, [0, 1]), [[0, [0, 1]]], [(0,)], [(0, [0, 1], 0)], [(0, [0])], [(0, [0, 1, 2])], [(0, [])],
                  [([0, 1], 0)], [(0, {0: 0, 1: 1})], [(0, "ab")], [(0, None)], [None], [0], [()]]
        for entry in ((2, [0, 1]), (-1, [0, 1]), (True, [0, 1]), (None, [0, 1]), ("0", [0, 1]), (10 ** 30 - 1, [0, 1]), ([0], [0, 1]),
                      (0, [-1, 0]), (0, [True, 0]), (0, [0, False]), (0, ["0", 0]), (0, [[0], 0]), (0, [0, ""])):
            wrong += [[entry], good + [entry], [entry] + good]
        for value in wrong:
            self.assert_raises(InvalidList, value, first_table_error, case, 1, value)
        self.assertIsNone(first_table_error(case, 10 ** 30 - 1, []) and None)

    def test_order_of_the_exceptions(self):
        faults = [(0, value, InvalidComparison, value) for value in not_comparisons()]
        faults += [(1, value, InvalidInteger, value) for value in (-1, -(10 ** 30 - 1), *not_integers())]
        faults += [(2, value, InvalidList, value) for value in (None, "a", [(0, [0, 0])], [0])]
        self.assert_faults(first_table_error, [example(), 0, []], faults)

    def test_arguments_stay(self):
        table = [(0, [0]), (1, [1])]
        first_table_error(example(), 1, table)
        self.assertEqual(table, [(0, [0]), (1, [1])])


class Expensive(Case):

    def test_example(self):
        self.assertEqual([expensive(example(), 0) == Format.parse("a*b"), expensive(example(), 1).is_empty()], [True, True])

    def test_drawn_formats(self):
        for case in drawn_cases(1021, 50) + drawn_cases(1022, 12, "abc", ((2, 4), (2, 3))):
            comparison = Comparison(*case)
            longest = 6 if len(case[1].letters()) < 3 else 4
            costs = dict(costs_up_to(*case, longest))
            for cost in (0, 1, 2, 3, 5, 60):
                found = expensive(comparison, cost)
                for text in texts_up_to(case[1].letters(), longest):
                    self.assertIs(text in found, text in costs and endless(costs[text]) > cost)
                if comparison.decision()[0] == "bounded":
                    self.assertIs(found.is_empty(), comparison.decision()[1] <= cost)
                self.assertIs(found.is_within(case[1]), True)

    def test_costs_0_and_60(self):
        chain = Comparison(Prices("a", {("a", ""): 6}), Format.parse("a" * 11 + "|" + "a" * 10 + "|a"), Format.parse(""))
        self.assertEqual([expensive(chain, 0) == chain.first(), expensive(chain, 60) == Format.parse("a" * 11),
                          expensive(cost=59, comparison=chain) == Format.parse("a" * 11 + "|" + "a" * 10)], [True] * 3)
        endless_case = Comparison(ONE, Format.parse("a*"), Format.parse(""))
        self.assertEqual(expensive(endless_case, 60).size, 62)
        self.assertEqual(expensive(Comparison(Prices("ab", {}), PAIRS, Format.parse("a*")), 60), Format.parse("(ab)+"))
        self.assertEqual(expensive(Comparison(ONE, PAIRS, NONE), 60), PAIRS)

    def test_order_of_the_exceptions(self):
        faults = [(0, value, InvalidComparison, value) for value in not_comparisons()]
        faults += [(1, value, InvalidInteger, value) for value in (-1, 61, 10 ** 30 - 1, *not_integers())]
        self.assert_faults(expensive, [example(), 0], faults)


class Costs(Case):

    def test_example(self):
        case = example()
        self.assertEqual([cost_counts(case, 2), costliest_text(case, 2), greatest_cost(case, 0)], [{0: 1, 1: 1}, "ab", 0])

    def test_drawn_formats(self):
        nones = 0
        for case in drawn_cases(103, 70) + drawn_cases(104, 15, "abc", ((2, 4), (2, 3))):
            comparison = Comparison(*case)
            longest = 6 if len(case[1].letters()) < 3 else 4
            costs = costs_up_to(*case, longest)
            for length in range(longest + 1):
                here = [(text, cost) for text, cost in costs if len(text) == length]
                expected = Counter(cost for _, cost in here)
                keys = sorted(expected, key=endless)
                found = cost_counts(comparison, length)
                self.assertEqual(list(found.items()), [(key, expected[key]) for key in keys])
                nones += None in found
                if here:
                    self.assertEqual(costliest_text(comparison, length),
                                     next(text for text, cost in here if cost == keys[-1]))
                else:
                    self.assert_raises(MissingText, length, costliest_text, comparison, length)
                before = [cost for text, cost in costs if len(text) <= length]
                if before:
                    self.assertEqual(greatest_cost(comparison, length), max(before, key=endless))
                else:
                    self.assert_raises(MissingText, length, greatest_cost, comparison, length)
        self.assertGreater(nones, 20)

    def test_lengths_of_60(self):
        for case in drawn_cases(105, 25, sizes=((1, 4), (1, 3))):
            comparison = Comparison(*case)
            counts = cost_counts(comparison, 60)
            self.assertEqual(sum(counts.values()), count_texts(case[1], 60))
            self.assertEqual(list(counts), sorted(counts, key=endless))
            if counts:
                text = costliest_text(comparison, 60)
                worst = list(counts)[-1]
                self.assertEqual(comparison.reader(None).cost_of(text), worst)
                self.assertEqual([len(text), text in case[1]], [60, True])
                whole = greatest_cost(comparison, 60)
                self.assertGreaterEqual(endless(whole), endless(worst))
                self.assertEqual(whole, max([list(cost_counts(comparison, length))[-1] for length in range(61)
                                             if count_texts(case[1], length)], key=endless))
            if comparison.decision()[0] == "bounded":
                self.assertTrue(all(cost is not None and cost <= comparison.decision()[1] for cost in counts))

    def test_texts_that_cannot_be_repaired(self):
        case = Comparison(Prices("ab", {("a", ""): 2}), Format.parse("a*b?a?"), Format.parse("a?"))
        self.assertEqual([cost_counts(case, 3), cost_counts(case, 1), cost_counts(case, 0)],
                         [{4: 1, None: 2}, {0: 1, None: 1}, {0: 1}])
        self.assertEqual([costliest_text(case, 3), costliest_text(case, 0)], ["aab", ""])
        self.assertEqual([greatest_cost(case, 0), greatest_cost(case, 1), greatest_cost(case, 60)], [0, None, None])
        nothing = Comparison(ONE, Format.parse("aa|ab"), NONE)
        self.assertEqual([cost_counts(nothing, 2), costliest_text(nothing, 2), greatest_cost(nothing, 2)], [{None: 2}, "aa", None])

    def test_lengths_without_texts(self):
        case = Comparison(ONE, Format.parse("aa(bb)*"), PAIRS)
        self.assertEqual([cost_counts(case, 0), cost_counts(case, 3), cost_counts(case, 59)], [{}, {}, {}])
        for length in (0, 1, 3, 59):
            self.assert_raises(MissingText, length, costliest_text, case, length)
        for length in (0, 1):
            self.assert_raises(MissingText, length, greatest_cost, case, length)
        self.assertEqual([greatest_cost(case, 2), greatest_cost(longest=3, comparison=case)], [1, 1])
        finite = Comparison(ONE, Format.parse("b"), PAIRS)
        self.assertEqual([greatest_cost(finite, 60), cost_counts(length=60, comparison=finite)], [1, {}])
        self.assert_raises(MissingText, 60, costliest_text, comparison=finite, length=60)

    def test_order_of_the_exceptions(self):
        faults = [(0, value, InvalidComparison, value) for value in not_comparisons()]
        faults += [(1, value, InvalidInteger, value) for value in (-1, 61, 10 ** 30 - 1, *not_integers())]
        for call in (cost_counts, costliest_text, greatest_cost):
            self.assert_faults(call, [example(), 2], faults)
            # No text is as short, and the length is wrong, too.
            self.assert_raises(InvalidInteger, -1, call, Comparison(ONE, Format.parse("a"), PAIRS), -1)
