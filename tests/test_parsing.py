"""Tests of [21] to [23]: expressions, their trees, and where the first fault is."""

from formatrepair.errors import InvalidExpression, InvalidText
from formatrepair.expressions import is_tree, parse_expression

from support import Case, lists_in, other_values

A, B, C = ("letter", "a"), ("letter", "b"), ("letter", "c")
EMPTY, NONE = ("empty",), ("none",)


def sequence(*trees):
    return ("sequence", list(trees))


def choice(*trees):
    return ("choice", list(trees))


TREES = {
    "": EMPTY,
    "a": A,
    "0": NONE,
    "<x>": ("name", "x"),
    "<abcdefgh>": ("name", "abcdefgh"),
    "ab": sequence(A, B),
    "abc": sequence(A, B, C),
    "a|b": choice(A, B),
    "a|b|c": choice(A, B, C),
    "|": choice(EMPTY, EMPTY),
    "||": choice(EMPTY, EMPTY, EMPTY),
    "a|": choice(A, EMPTY),
    "|a": choice(EMPTY, A),
    "a||b": choice(A, EMPTY, B),
    "ab|c": choice(sequence(A, B), C),
    "a|bc": choice(A, sequence(B, C)),
    "a*": ("many", A),
    "a+": ("some", A),
    "a?": ("maybe", A),
    "0*": ("many", NONE),
    "<x>?": ("maybe", ("name", "x")),
    "ab*": sequence(A, ("many", B)),
    "(ab)*": ("many", sequence(A, B)),
    "(a|b)+": ("some", choice(A, B)),
    "(a*)*": ("many", ("many", A)),
    "((a*)?)+": ("some", ("maybe", ("many", A))),
    "a*b+c?": sequence(("many", A), ("some", B), ("maybe", C)),
    "a*|b": choice(("many", A), B),
    "()": EMPTY,
    "(())": EMPTY,
    "()*": ("many", EMPTY),
    "()a": sequence(EMPTY, A),
    "a()": sequence(A, EMPTY),
    "()()": sequence(EMPTY, EMPTY),
    "()|()": choice(EMPTY, EMPTY),
    "(|)": choice(EMPTY, EMPTY),
    "(a|)*": ("many", choice(A, EMPTY)),
    "(a)": A,
    "((a))": A,
    "(a)*": ("many", A),
    "(ab)": sequence(A, B),
    "(ab)c": sequence(sequence(A, B), C),
    "a(bc)": sequence(A, sequence(B, C)),
    "(ab)|c": choice(sequence(A, B), C),
    "(a|b)|c": choice(choice(A, B), C),
    "a|(b|c)": choice(A, choice(B, C)),
    "(a|b)c": sequence(choice(A, B), C),
    "a0<x>()": sequence(A, NONE, ("name", "x"), EMPTY),
    "(" * 20 + "a" + ")" * 20: A,
    "(a)" * 25: sequence(*[A] * 25),
}

FAULTS = {
    "*": 0, "+": 0, "?": 0, ")": 0, ">": 0, "1": 0, "A": 0, " ": 0, "\n": 0, "-": 0, "a b": 1, "a1": 1, "aZ": 1,
    "a**": 2, "a*+": 2, "a?*": 2, "a+?": 2, "a*b**": 4, "()**": 3, "<x>*?": 4,
    "|*": 1, "a|+": 2, "(*": 1, "(?)": 1, "a(|*)": 3, "a|*b": 2,
    "a)": 1, "(a))": 3, "a|b)c": 3, "())": 2, ")(": 0,
    "(": 1, "a(b": 3, "((a)": 4, "(a|": 3, "(a*": 3, "(" * 20: 20, "a|(": 3,
    "<": 1, "<a": 2, "a<": 2, "<abcdefgh": 9, "(<a": 3, "(<a>": 4,
    "<>": 1, "a<>": 2, "<a<": 2, "<1>": 1, "<a1>": 2, "<a|b>": 2, "<A>": 1, "<(": 1, "<aB>": 2, "< a>": 1,
    "<abcdefghi>": 9, "<abcdefghi": 9, "<abcdefgh1": 9, "x<abcdefghijkl>": 10, "<abcdefgh)": 9,
    "a>": 1, "<a>>": 3,
    "(" * 21: 20, "(" * 25: 20, "(" * 21 + "a" + ")" * 21: 20, "a|" + "(" * 21: 22,
    "(" * 20 + "<a>(": 23, "(" * 20 + ")": 21, "(a)" * 20 + "(" * 21: 80,
    "a**(": 2, "a)*)": 1, "(a**": 3, "\u00e9": 0, "a\u0661": 1,
}


class Trees(Case):

    def test_examples(self):
        self.assertEqual(parse_expression("a|b*"), choice(A, ("many", B)))
        self.assertEqual(parse_expression(""), EMPTY)
        self.assertEqual(parse_expression("(ab)c"), sequence(sequence(A, B), C))
        self.assert_fault(3, parse_expression, "a(b")

    def test_trees(self):
        for text, tree in TREES.items():
            self.assertEqual(parse_expression(text), tree, text)
            self.assertEqual(parse_expression(text=text), tree, text)

    def test_each_letter(self):
        for letter in "abcdefghijklmnopqrstuvwxyz":
            self.assertEqual(parse_expression(letter), ("letter", letter))

    def test_results_are_trees(self):
        for text in TREES:
            self.assertIs(is_tree(parse_expression(text)), True)

    def test_results_are_new(self):
        for text in TREES:
            first = parse_expression(text)
            for part in lists_in(first):
                part.append("spoilt")
            self.assertEqual(parse_expression(text), TREES[text])

    def test_longest_expressions(self):
        self.assertEqual(parse_expression("0" * 200), sequence(*[NONE] * 200))
        self.assertEqual(parse_expression("|" * 200), choice(*[EMPTY] * 201))
        self.assertEqual(parse_expression("<abcdefgh>" * 20), sequence(*[("name", "abcdefgh")] * 20))


class Faults(Case):

    def test_index_of_the_first_fault(self):
        for text, index in FAULTS.items():
            with self.subTest(text=text):
                self.assert_fault(index, parse_expression, text)

    def test_what_comes_before_a_fault_can_be_continued(self):
        for text, index in FAULTS.items():
            with self.subTest(text=text):
                self.assertTrue(self.can_be_continued(text[:index]))

    def can_be_continued(self, text):
        ends = [behind + ")" * depth for behind in ("", "a", ">", "a>") for depth in range(21)]
        return any(self.is_expression(text + end) for end in ends)

    def is_expression(self, text):
        try:
            parse_expression(text)
        except InvalidExpression:
            return False
        return True

    def test_values_that_are_no_strings(self):
        for value in other_values():
            if not isinstance(value, str):
                self.assert_raises(InvalidText, value, parse_expression, value)
