"""Tests of [31] to [33]: formats, their smallest tables, and reading texts."""

import copy
from itertools import product

from formatrepair.errors import InvalidInteger, InvalidLetter, InvalidList, InvalidTable, InvalidText, InvalidTree
from formatrepair.errors import UnknownName
from formatrepair.expressions import parse_expression
from formatrepair.formats import Format

from oracle import faults_of_smallest, table_accepts, table_texts, texts_up_to, tree_texts
from support import Case, other_values, with_tuples, wrapped

EXPRESSIONS = [
    "", "0", "a", "ab", "a|b", "a*", "a+", "a?", "0*", "0+", "0?", "()*", "(ab)*", "(ab)+", "(ab)?", "a*b*", "(a|b)*b",
    "(a|b)*a(a|b)", "a0", "0a", "a|0", "a0|b", "(a*)*", "(a+)+", "(a?)*", "(a?)+", "(a?b?)*", "a*a", "aa*", "a+b?a+",
    "(aa)*|(aaa)*", "(aa|aaa)*", "(a|ab)(b|)", "(a*b)*", "(a*b)*a*", "((a|b)(a|b))*", "ab|ba|aab", "|a|aa", "a(b|)a",
    "(a|)(b|)(c|)", "(ab|c)*a?", "b(a|bb)*|ab", "(a(ba)*)?", "((ab)*a)*", "((ab)+b?)+", "(a*|b*)+", "(a*|b)(a|b*)",
]


def merged_format():
    return Format([{"a": 1, "b": 2}, {"a": 1}, {"a": 2}], [1, 2, 2])


def all_tables(size):
    """Return all tables of a size over two letters, with every set of accepting states."""
    targets = [None, *range(size)]
    rows = [{letter: to for letter, to in (("a", here), ("b", there)) if to is not None}
            for here in targets for there in targets]
    subsets = [[state for state in range(size) if number >> state & 1] for number in range(2 ** size)]
    return [(list(table), accepting) for table in product(rows, repeat=size) for accepting in subsets]


class Made(Case):

    def test_examples(self):
        pairs = Format.parse("(ab)*")
        self.assertEqual([pairs.rows(), pairs.accepting(), Format.parse("0").rows()], [[{"a": 1}, {"b": 0}], [0], []])
        merged = merged_format()
        found = [merged.rows(), merged.accepting(), merged.size, merged.letters(), merged.is_finite()]
        self.assertEqual(found, [[{"a": 1, "b": 1}, {"a": 1}], [1], 2, ["a", "b"], False])

    def test_by_name_and_with_tuples(self):
        rows, accepting = [{"a": 1}, {}], [1]
        for made in (Format(rows=rows, accepting=accepting), Format(tuple(rows), tuple(accepting)),
                     Format.of_tree(tree=("letter", "a")), Format.parse(text="a")):
            self.assertEqual([made.rows(), made.accepting()], [[{"a": 1}, {}], [1]])
        tree = parse_expression("(a(b|c))*a")
        self.assertEqual(Format.of_tree(with_tuples(tree)), Format.of_tree(tree))

    def test_empty_tables(self):
        for rows in ([], ()):
            self.assertEqual([Format(rows, []).rows(), Format(rows, ()).accepting()], [[], []])

    def test_the_order_of_keys_means_nothing(self):
        made = Format([{"b": 1, "a": 0}, {}], [1])
        self.assertEqual(list(made.rows()[0]), ["a", "b"])
        self.assertEqual(made, Format([{"a": 0, "b": 1}, {}], [1]))

    def test_accepting_states_twice_and_in_any_order(self):
        rows = [{"a": 1}, {"a": 2}, {"a": 3}, {}]
        for accepting in ([1, 3], [3, 1], [3, 1, 3, 3, 1], (3, 3, 1)):
            self.assertEqual(Format(rows, accepting).accepting(), [1, 3])

    def test_states_that_are_never_reached_or_lead_nowhere(self):
        rows = [{"a": 2, "b": 1, "c": 4}, {"a": 1, "b": 4}, {"b": 0}, {"a": 0, "c": 2}, {}]
        made = Format(rows, [0, 3])
        self.assertEqual([made.rows(), made.accepting(), made.letters()], [[{"a": 1}, {"b": 0}], [0], ["a", "b"]])
        self.assertEqual(Format([{"a": 0}, {"a": 1}], [1]).rows(), [])
        self.assertEqual(Format([{"a": 0}], []).size, 0)

    def test_states_that_are_alike(self):
        made = Format([{"a": 1, "b": 2}, {"a": 3}, {"a": 4}, {}, {}], [3, 4])
        self.assertEqual([made.rows(), made.accepting()], [[{"a": 1, "b": 1}, {"a": 2}, {}], [2]])

    def test_forty_states(self):
        chain = Format([{"a": state + 1} for state in range(39)] + [{}], [39])
        self.assertEqual([chain.size, "a" * 39 in chain, "a" * 38 in chain], [40, True, False])
        circle = Format([{"a": (state + 1) % 40} for state in range(40)], list(range(0, 40, 5)))
        self.assertEqual([circle.rows(), circle.accepting()], [Format.parse("(aaaaa)*").rows(), [0]])
        crossed = Format([{"a": (state * 7 + 1) % 40, "b": (state * 3) % 40} for state in range(40)], [7])
        self.assertEqual(faults_of_order(crossed), [])

    def test_arguments_are_copied_and_stay(self):
        rows, accepting = [{"b": 1, "a": 0}, {}, {}], [1, 0, 1]
        before = copy.deepcopy((rows, accepting))
        made = Format(rows, accepting)
        self.assertEqual((rows, accepting), before)
        shown = [made.rows(), made.accepting()]
        rows[0]["a"] = 1
        rows.clear()
        accepting.append(2)
        self.assertEqual([made.rows(), made.accepting()], shown)


def faults_of_order(made):
    """Return whether a table is not numbered by first texts, where it is too large to compare states."""
    order = [0]
    for state in order:
        order.extend(to for to in dict.fromkeys(made.rows()[state].values()) if to not in order)
    return [] if order == list(range(made.size)) else order


class Refused(Case):

    def test_rows_that_are_no_table(self):
        wrong = [value for value in other_values() if value not in ([], (), [{}])]
        wrong += [[[]], [()], ["a"], [{"a": 1}], [{"a": -1}], [{"a": True}], [{"a": False}], [{"a": None}],
                  [{"a": "0"}], [{"a": [0]}], [{"a": (0,)}], [{"A": 0}], [{"ab": 0}], [{"": 0}], [{0: 0}], [{"1": 0}],
                  [{None: 0}], [{("a",): 0}], [{("a", ""): 0}], [{}, {"a": 2}], [{}, None], [{}, [("a", 0)]],
                  [{"a": 0}, {"a": 1, "b": 10 ** 30 - 1}], {"a": 0}, {0: {}}, "a", 1]
        for rows in wrong:
            self.assert_raises(InvalidTable, rows, Format, rows, [])
            self.assert_raises(InvalidTable, rows, Format, rows, None)

    def test_accepting_states_that_are_none(self):
        wrong = [value for value in other_values() if value not in ([], ())]
        wrong += [[2], [-1], [0, 2], [True], [False], [0, True], ["0"], ["a"], [[0]], [(0,)], [None], [{}], 0, 1, "",
                  {0: 0}, {}, [10 ** 30 - 1], (0, 2)]
        for accepting in wrong:
            self.assert_raises(InvalidList, accepting, Format, [{"a": 1}, {}], accepting)
        for accepting in ([0], (0,), [-1]):
            self.assert_raises(InvalidList, accepting, Format, [], accepting)

    def test_values_that_are_no_trees(self):
        for value in other_values() + [wrapped(("letter", "a"), 22, lambda tree: ("many", tree)), ("many", "a")]:
            self.assert_raises(InvalidTree, value, Format.of_tree, value)

    def test_wrong_expressions(self):
        for text, index in (("a**", 2), ("a(b", 3), (")", 0), ("<>", 1), ("<x>(", 4), ("a%", 1), ("(" * 21, 20)):
            self.assert_fault(index, Format.parse, text)
        for value in other_values():
            if not isinstance(value, str):
                self.assert_raises(InvalidText, value, Format.parse, value)

    def test_names(self):
        for text, name in (("<x>", "x"), ("a<b>|<a>", "b"), ("0<c>", "c"), ("(a|<z>*)<y>", "z")):
            for call, value in ((Format.parse, text), (Format.of_tree, parse_expression(text))):
                with self.assertRaises(UnknownName) as caught:
                    call(value)
                self.assertEqual(caught.exception.name, name)
        tree = ("sequence", [("name", "b"), ("name", "a")])
        self.assert_raises(UnknownName, tree[1][0][1], Format.of_tree, tree)


class Smallest(Case):

    def test_all_small_tables(self):
        for size in (1, 2):
            for rows, accepting in all_tables(size):
                made = Format(rows, accepting)
                self.assertEqual(table_texts(rows, accepting, 5), table_texts(made.rows(), made.accepting(), 5))
                self.assertEqual(faults_of_smallest(made.rows(), made.accepting()), [])

    def test_tables_of_three_states(self):
        for number, (rows, accepting) in enumerate(all_tables(3)):
            if number % 7 == 0:
                made = Format(rows, accepting)
                self.assertEqual(table_texts(rows, accepting, 5), table_texts(made.rows(), made.accepting(), 5))
                self.assertEqual(faults_of_smallest(made.rows(), made.accepting()), [])

    def test_expressions(self):
        for text in EXPRESSIONS:
            with self.subTest(text=text):
                made = Format.parse(text)
                expected = tree_texts(parse_expression(text), 6)
                self.assertEqual(table_texts(made.rows(), made.accepting(), 6), expected)
                self.assertEqual(faults_of_smallest(made.rows(), made.accepting()), [])

    def test_equal_texts_have_equal_tables(self):
        for one, other in (("a*", "(a*)*"), ("a+", "aa*"), ("(a|b)*", "(a*b*)*"), ("a?", "|a"), ("(ab)*a", "a(ba)*"),
                           ("0", "a0b"), ("", "0*"), ("(aa|aaa)+|a", "a+|aaa"), ("a(b|c)", "ab|ac")):
            one, other = Format.parse(one), Format.parse(other)
            self.assertEqual([one.rows(), one.accepting()], [other.rows(), other.accepting()])
            self.assertEqual(one, other)

    def test_states_are_in_the_order_of_first_texts(self):
        made = Format.parse("c|ba|aab|abb")
        self.assertEqual(made.rows(), [{"a": 1, "b": 2, "c": 3}, {"a": 4, "b": 4}, {"a": 3}, {}, {"b": 3}])
        self.assertEqual(made.accepting(), [3])

    def test_formats_without_texts_and_of_the_empty_text(self):
        none, empty = Format.parse("0"), Format.parse("")
        self.assertEqual([none.rows(), none.accepting(), none.size, none.letters()], [[], [], 0, []])
        self.assertEqual([empty.rows(), empty.accepting(), empty.size, empty.letters()], [[{}], [0], 1, []])
        self.assertEqual([none.is_empty(), none.is_finite(), empty.is_empty(), empty.is_finite()],
                         [True, True, False, True])

    def test_finite_and_endless_formats(self):
        for text, finite in (("a", True), ("a|bc|ccc", True), ("a*0", True), ("(a|b)(a|b)(a|b)", True), ("()*", True),
                             ("a*", False), ("b+", False), ("ba*|c", False), ("(ab)*c", False), ("abc(ab)+", False)):
            self.assertIs(Format.parse(text).is_finite(), finite)
            self.assertIs(Format.parse(text).is_empty(), text == "a*0")

    def test_letters_of_the_table_alone_count(self):
        self.assertEqual(Format.parse("z|(c0)|a*(b0)?").letters(), ["a", "z"])
        self.assertEqual(Format.parse("q(z|c)*nb|ta?|m|dx*").letters(), list("abcdmnqtxz"))

    def test_results_that_the_caller_modifies(self):
        made = Format.parse("(ab)*c")
        shown = [made.rows(), made.accepting(), made.letters()]
        made.rows()[0]["a"] = 0
        made.rows().clear()
        made.accepting().append(0)
        made.letters().clear()
        self.assertEqual([made.rows(), made.accepting(), made.letters()], shown)
        self.assertIsNot(made.rows()[0], made.rows()[0])

    def test_rows_do_not_share_dicts(self):
        rows = Format.parse("(a|b)*b").rows()
        self.assertEqual(len({id(row) for row in rows}), len(rows))

    def test_repr_is_a_string(self):
        self.assertIsInstance(repr(Format.parse("a")), str)

    def test_large_expressions(self):
        self.assertEqual(Format.parse("(a|b)*a" + "(a|b)" * 5).size, 64)
        self.assertEqual(Format.parse("(" * 20 + "a" + ")" * 20).size, 2)
        self.assertEqual(Format.of_tree(("choice", [("sequence", [("letter", "a")] * k) for k in range(2, 20)])).size, 20)
        self.assertEqual(Format.of_tree(("sequence", [("letter", "a")] * 110)).size, 111)


class Reading(Case):

    def setUp(self):
        self.merged = merged_format()
        self.none = Format.parse("0")

    def test_example(self):
        merged = self.merged
        found = [merged.next_state(0, "b"), merged.next_state(1, "b"), merged.contains("baa"), "ab" in merged,
                 merged.state_after("aa"), merged.state_after("a", start=1)]
        self.assertEqual(found, [1, None, True, False, 1, 1])

    def test_all_short_texts(self):
        for expression in EXPRESSIONS:
            made = Format.parse(expression)
            rows, accepting = made.rows(), made.accepting()
            for text in texts_up_to("abz", 4):
                inside = table_accepts(rows, accepting, text)
                self.assertIs(made.contains(text), inside)
                self.assertIs(made.contains(text=text), inside)
                self.assertIs(text in made, inside)
                self.assertIs(text not in made, not inside)

    def test_next_state(self):
        made = Format.parse("ab|c")
        rows = made.rows()
        for state in range(made.size):
            for letter in "abcz":
                self.assertEqual(made.next_state(state, letter), rows[state].get(letter))
                self.assertEqual(made.next_state(letter=letter, state=state), rows[state].get(letter))

    def test_state_after(self):
        made = Format.parse("ab|c")
        for text, start, state in (("", 0, 0), ("", 2, 2), ("a", 0, 1), ("ab", 0, 2), ("b", 1, 2), ("c", 0, 2),
                                   ("b", 0, None), ("abc", 0, None), ("z", 0, None), ("a", 2, None), ("ba", 1, None)):
            self.assertEqual(made.state_after(text, start=start), state)
        self.assertEqual(made.state_after(text="ab"), 2)

    def test_long_texts(self):
        self.assertIs(Format.parse("(ab)*").contains("ab" * 200), True)
        self.assertEqual(Format.parse("(ab)*").state_after("ab" * 199 + "a"), 1)

    def test_wrong_texts(self):
        wrong = [value for value in other_values() if value != ""]
        for made in (self.merged, self.none):
            for value in wrong:
                self.assert_raises(InvalidText, value, made.contains, value)
                self.assert_raises(InvalidText, value, lambda text: text in made, value)
                self.assert_raises(InvalidText, value, made.state_after, value)
                self.assert_raises(InvalidText, value, made.state_after, value, start="x")

    def test_wrong_states(self):
        for made, some in ((self.merged, [2, 3]), (self.none, [0, 1])):
            for value in other_values() + some:
                self.assert_raises(InvalidInteger, value, made.next_state, value, "a")
                self.assert_raises(InvalidInteger, value, made.next_state, value, "ab")
                self.assert_raises(InvalidInteger, value, made.state_after, "", start=value)
                self.assert_raises(InvalidInteger, value, made.state_after, "zz", start=value)

    def test_an_empty_format_has_no_state_to_start_from(self):
        self.assert_raises(InvalidInteger, 0, self.none.state_after, "")
        self.assert_raises(InvalidInteger, 0, self.none.state_after, "a", start=0)
        self.assertIs(self.none.contains(""), False)
        self.assertIs("a" in self.none, False)

    def test_wrong_letters(self):
        for value in other_values() + ["", "ab"]:
            self.assert_raises(InvalidLetter, value, self.merged.next_state, 0, value)

    def test_the_start_is_given_by_name(self):
        with self.assertRaises(TypeError):
            self.merged.state_after("a", 1)
