"""Tests of [24] and [25]: writing trees, telling them from other values, and replacing names."""

import copy

from formatrepair.errors import InvalidList, InvalidTree, UnknownName
from formatrepair.expressions import expression_text, is_tree, letters_of, names_of, parse_expression, with_names

from support import Case, lists_in, other_values, with_tuples, wrapped

A, B = ("letter", "a"), ("letter", "b")
X, Y = ("name", "x"), ("name", "y")
EMPTY, NONE = ("empty",), ("none",)
MANY_A = ("many", A)
AB = ("sequence", [A, B])
A_OR_B = ("choice", [A, B])


def in_choice(tree):
    return ("choice", [tree, B])


def in_sequence(tree):
    return ("sequence", [tree, B])


def in_sign(tree):
    return ("some", tree)


def full_level(tree):
    """Put a tree in as many levels as one pair of parentheses can add."""
    return ("many", ("choice", [("sequence", [tree, A]), B]))


# For each kind of tree: itself, in a choice with |b, in a sequence with b, before +.
SHORTEST = [
    (A, "a", "a|b", "ab", "a+"),
    (NONE, "0", "0|b", "0b", "0+"),
    (X, "<x>", "<x>|b", "<x>b", "<x>+"),
    (EMPTY, "", "|b", "()b", "()+"),
    (AB, "ab", "ab|b", "(ab)b", "(ab)+"),
    (A_OR_B, "a|b", "(a|b)|b", "(a|b)b", "(a|b)+"),
    (("choice", [EMPTY, EMPTY]), "|", "(|)|b", "(|)b", "(|)+"),
    (("sequence", [EMPTY, EMPTY]), "()()", "()()|b", "(()())b", "(()())+"),
    (MANY_A, "a*", "a*|b", "a*b", "(a*)+"),
    (("some", EMPTY), "()+", "()+|b", "()+b", "(()+)+"),
    (("maybe", AB), "(ab)?", "(ab)?|b", "(ab)?b", "((ab)?)+"),
]

NO_TREES = [
    ("letter",), ("letter", "a", "a"), ("letter", "ab"), ("letter", ""), ("letter", "A"), ("letter", 1),
    ("letter", None), ("letter", ["a"]), ("letter", A), ("name",), ("name", ""), ("name", "abcdefghi"),
    ("name", "a1"), ("name", "x", "y"), ("name", ["x"]), ("name", None), ("none", "a"), ("none", []), ("empty", []),
    ("empty", None), ("sequence",), ("sequence", []), ("sequence", [A]), ("sequence", A, B), ("sequence", [A, "b"]),
    ("sequence", [A, None]), ("sequence", [A, ["letter", "b"]]), ("sequence", [A, B], []), ("sequence", "ab"),
    ("sequence", {"a": A, "b": B}), ("sequence", {A: A, B: B}), ("sequence", A), ("choice",), ("choice", []),
    ("choice", [A]), ("choice", (A,)), ("choice", [[A, B]]), ("choice", [A, B, 0]), ("choice", None), ("many",),
    ("many", "a"), ("many", [A]), ("many", [A, B]), ("many", A, A), ("some", None), ("some", []), ("maybe", ("a",)),
    ("maybe", True), ("Letter", "a"), ("", "a"), ("plus", A), ("repeat", [A, B]), (None, "a"), (["letter"], "a"),
    (("letter",), "a"), ({}, "a"), ("*", A), ["letter", "a"], ["empty"], ["sequence", [A, B]], [A, B], "a", "a|b",
]

DEEP_NO_TREES = [
    wrapped(0, 110, lambda value: [value]),
    wrapped("a", 110, lambda value: (value,)),
    wrapped(EMPTY, 109, lambda value: {"a": value}),
    wrapped(A, 100, lambda value: ("many", value)),
    wrapped("a", 109, lambda value: ("many", value)),
    wrapped(A, 54, lambda value: ("sequence", [value, B])),
    wrapped(A, 54, lambda value: ("choice", [B, value])),
    wrapped("a", 54, lambda value: ("choice", [value, B])),
    wrapped(A, 22, full_level),
    wrapped(None, 21, full_level),
]

READERS = (expression_text, letters_of, names_of)


class Written(Case):

    def test_example(self):
        self.assertEqual(expression_text(("many", ("choice", [A, EMPTY]))), "(a|)*")

    def test_each_kind_in_each_place(self):
        for tree, alone, chosen, joined, signed in SHORTEST:
            self.assertEqual(expression_text(tree), alone)
            self.assertEqual(expression_text(tree=in_choice(tree)), chosen)
            self.assertEqual(expression_text(in_sequence(tree)), joined)
            self.assertEqual(expression_text(in_sign(tree)), signed)

    def test_later_places_are_like_the_first(self):
        for tree, _, _, _, _ in SHORTEST:
            self.assertEqual(expression_text(("sequence", [B, tree])), "b" + expression_text(in_sequence(tree))[:-1])
            self.assertEqual(expression_text(("choice", [B, tree])), "b|" + expression_text(in_choice(tree))[:-2])

    def test_signs(self):
        for kind, sign in (("many", "*"), ("some", "+"), ("maybe", "?")):
            self.assertEqual(expression_text((kind, A)), "a" + sign)
            self.assertEqual(expression_text((kind, (kind, A))), f"(a{sign}){sign}")

    def test_what_is_written_is_read_back(self):
        trees = [tree for row in SHORTEST for tree in (row[0], in_choice(row[0]), in_sequence(row[0]), in_sign(row[0]))]
        for tree in trees + [put(tree) for tree in trees for put in (in_choice, in_sequence, in_sign)]:
            self.assertEqual(parse_expression(expression_text(tree)), tree)

    def test_without_parentheses_that_are_not_needed(self):
        for text, shortest in (("((a))(b)", "ab"), ("()", ""), ("(ab)", "ab"), ("()|(a)|()", "|a|"), ("(a)*", "a*"),
                               ("((a*))*", "(a*)*"), ("(ab)|(a|b)", "ab|(a|b)"), ("(a()b)", "a()b")):
            self.assertEqual(expression_text(parse_expression(text)), shortest)

    def test_tuples_in_the_place_of_lists(self):
        for tree, alone, chosen, joined, signed in SHORTEST:
            self.assertEqual(expression_text(with_tuples(tree)), alone)
            self.assertEqual(expression_text(with_tuples(in_choice(in_sequence(tree)))), joined + "|b")
            self.assertIs(is_tree(with_tuples(in_sequence(tree))), True)

    def test_results_longer_than_an_argument(self):
        self.assertEqual(expression_text(("sequence", [X] * 110)), "<x>" * 110)


class Depth(Case):

    def assert_deepest(self, tree, more):
        self.assertIs(is_tree(tree), True)
        self.assertEqual(parse_expression(expression_text(tree)), tree)
        self.assertIs(is_tree(more), False)
        for reader in READERS:
            self.assert_raises(InvalidTree, more, reader, more)
        self.assert_raises(InvalidTree, more, with_names, more, {})

    def test_signs_need_parentheses_from_the_second_one(self):
        self.assert_deepest(wrapped(A, 21, in_sign), wrapped(A, 22, in_sign))

    def test_sequences_need_them_in_sequences(self):
        self.assert_deepest(wrapped(A, 21, in_sequence), wrapped(A, 22, in_sequence))

    def test_choices_need_them_in_choices(self):
        self.assert_deepest(wrapped(A, 21, in_choice), wrapped(A, 22, in_choice))

    def test_the_empty_tree_needs_them_as_an_item(self):
        self.assert_deepest(wrapped(EMPTY, 20, in_sequence), wrapped(EMPTY, 21, in_sequence))
        self.assert_deepest(wrapped(EMPTY, 20, in_sign), wrapped(EMPTY, 21, in_sign))

    def test_the_empty_tree_needs_none_as_an_alternative(self):
        self.assert_deepest(wrapped(EMPTY, 21, in_choice), wrapped(EMPTY, 22, in_choice))

    def test_levels_that_need_no_parentheses_do_not_count(self):
        level = wrapped(A, 20, full_level)
        self.assert_deepest(("choice", [("sequence", [level, A]), B]), full_level(level))
        self.assertEqual(expression_text(level), "(" * 20 + "a" + "a|b)*" * 20)

    def test_the_deepest_of_several_counts(self):
        deep = wrapped(A, 21, in_sequence)
        self.assert_deepest(("choice", [A, deep, B]), ("sequence", [A, deep, B]))


class Values(Case):

    def test_trees(self):
        for row in SHORTEST:
            self.assertIs(is_tree(row[0]), True)
            self.assertIs(is_tree(value=row[0]), True)

    def test_neither_letters_nor_characters_count(self):
        self.assertIs(is_tree(("sequence", [A] * 110)), True)
        self.assertIs(is_tree(("choice", [("sequence", [("name", "abcdefgh")] * 110)] * 110)), True)

    def test_values_that_are_no_trees(self):
        for value in other_values() + NO_TREES + DEEP_NO_TREES:
            self.assertIs(is_tree(value), False)
            for reader in READERS:
                self.assert_raises(InvalidTree, value, reader, value)
            self.assert_raises(InvalidTree, value, with_names, value, {})

    def test_no_trees_inside_of_trees(self):
        for value in other_values() + NO_TREES:
            for put in (in_choice, in_sequence, in_sign, full_level):
                outer = put(value)
                self.assertIs(is_tree(outer), False)
                self.assert_raises(InvalidTree, outer, expression_text, outer)


class Words(Case):

    def test_example(self):
        tree = parse_expression("b|<x>a")
        self.assertEqual([letters_of(tree), names_of(tree)], [["a", "b"], ["x"]])

    def test_ascending_order_without_duplicates(self):
        tree = parse_expression("(c<b>|a<z>)*(c?<b>+|<ab><a>)b0()<abcdefgh>")
        self.assertEqual(letters_of(tree), ["a", "b", "c"])
        self.assertEqual(names_of(tree=tree), ["a", "ab", "abcdefgh", "b", "z"])
        self.assertEqual(letters_of(tree=with_tuples(tree)), ["a", "b", "c"])
        self.assertEqual(names_of(with_tuples(tree)), ["a", "ab", "abcdefgh", "b", "z"])

    def test_trees_without_words(self):
        for tree in (EMPTY, NONE, ("many", NONE), ("choice", [EMPTY, NONE])):
            self.assertEqual([letters_of(tree), names_of(tree)], [[], []])
        self.assertEqual([letters_of(X), names_of(A)], [[], []])

    def test_each_call_returns_a_new_list(self):
        tree = parse_expression("a<x>")
        letters_of(tree).append("b")
        names_of(tree).append("y")
        self.assertEqual([letters_of(tree), names_of(tree)], [["a"], ["x"]])


class Replaced(Case):

    def test_example(self):
        self.assertEqual(with_names(parse_expression("<x>b"), {"x": A}), AB)

    def test_names_are_replaced_everywhere(self):
        tree = parse_expression("<x>|(<y>*<x>)?|<x>+")
        result = with_names(tree=tree, table={"x": AB, "y": ("many", A), "unused": NONE})
        self.assertEqual(expression_text(result), "ab|((a*)*(ab))?|(ab)+")

    def test_a_name_alone(self):
        self.assertEqual(with_names(X, {"x": A_OR_B}), A_OR_B)

    def test_nothing_is_merged(self):
        self.assertEqual(with_names(parse_expression("a<x>"), {"x": AB}), ("sequence", [A, AB]))
        self.assertEqual(with_names(parse_expression("a|<x>"), {"x": A_OR_B}), ("choice", [A, A_OR_B]))
        self.assertEqual(expression_text(with_names(parse_expression("a<x>|<x>"), {"x": EMPTY})), "a()|")

    def test_names_of_the_replacing_trees_stay(self):
        result = with_names(parse_expression("<x><y>"), {"x": parse_expression("<y><x><z>"), "y": X})
        self.assertEqual(expression_text(result), "(<y><x><z>)<x>")

    def test_without_names_the_table_does_not_matter(self):
        for table in ({}, {"x": NONE}):
            self.assertEqual(with_names(parse_expression("a(b|0)*"), table), parse_expression("a(b|0)*"))

    def test_tuples_become_lists(self):
        tree = parse_expression("<x>(b|<x>)")
        result = with_names(with_tuples(tree), {"x": with_tuples(AB)})
        self.assertEqual(result, ("sequence", [AB, ("choice", [B, AB])]))

    def test_arguments_stay_and_no_list_is_shared(self):
        tree, table = parse_expression("<x>(b|<x>)(ab)*"), {"x": parse_expression("ab|a"), "y": parse_expression("ab")}
        before = copy.deepcopy((tree, table))
        result = with_names(tree, table)
        self.assertEqual((tree, table), before)
        lists = lists_in(result) + lists_in(tree) + lists_in(table)
        self.assertEqual(len({id(part) for part in lists}), len(lists))
        for part in lists_in(result):
            part.clear()
        self.assertEqual((tree, table), before)

    def test_wrong_tables(self):
        wrong = [value for value in other_values() if value != {}]
        wrong += [{"": A}, {"abcdefghi": A}, {"A": A}, {1: A}, {("x",): A}, {None: A}, {"x": A, "y": ["letter", "a"]},
                  {"x": "a"}, {"x": None}, {"x": [A, B]}, {"x": wrapped(A, 22, in_sign)}, [("x", A)], (("x", A),)]
        for table in wrong:
            self.assert_raises(InvalidList, table, with_names, X, table)
            self.assert_raises(InvalidList, table, with_names, A, table)

    def test_the_tree_is_checked_before_the_table(self):
        tree = ("sequence", [X])
        self.assert_raises(InvalidTree, tree, with_names, tree, None)
        self.assert_raises(InvalidTree, tree, with_names, tree, {})

    def test_the_table_is_checked_before_its_names(self):
        table = {"y": A, "z": None}
        self.assert_raises(InvalidList, table, with_names, X, table)

    def test_the_first_missing_name_from_left_to_right(self):
        for text, missing in (("<c><b><a>", "c"), ("a|(<a>|<b>)*<c>", "b"), ("(<a><c>)?|<b>", "c"), ("<b>+<a>", "b")):
            with self.assertRaises(UnknownName) as caught:
                with_names(parse_expression(text), {"a": X, "x": A})
            self.assertEqual(caught.exception.name, missing)

    def test_missing_names_come_before_the_depth(self):
        deep = wrapped(Y, 21, in_sequence)
        self.assert_raises(UnknownName, "x", with_names, ("choice", [deep, X]), {"y": EMPTY})

    def test_results_that_are_nested_too_deep(self):
        place = wrapped(X, 21, in_sequence)
        for tree, fits in ((A, True), (MANY_A, True), (NONE, True), (EMPTY, False), (AB, False), (A_OR_B, False)):
            if fits:
                self.assertEqual(with_names(place, {"x": tree}), wrapped(tree, 21, in_sequence))
            else:
                with self.assertRaises(InvalidTree) as caught:
                    with_names(place, {"x": tree})
                self.assertEqual(caught.exception.value, wrapped(tree, 21, in_sequence))

    def test_the_deepest_trees_in_one_another(self):
        outer, inner = wrapped(X, 20, full_level), wrapped(A, 20, full_level)
        with self.assertRaises(InvalidTree) as caught:
            with_names(outer, {"x": inner})
        self.assertEqual(caught.exception.value, wrapped(inner, 20, full_level))
