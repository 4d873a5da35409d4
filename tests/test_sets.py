"""Tests of [34], and of [9] as far as it speaks of formats: formats as sets of texts."""

from formatrepair.errors import InvalidFormat
from formatrepair.expressions import parse_expression
from formatrepair.formats import Format

from oracle import faults_of_smallest, joined, repeated, table_texts, tree_texts
from support import Case, other_values

LONGEST = 5
EXPRESSIONS = ["0", "", "a", "b", "a?", "ab", "a|b", "a*", "b+", "(ab)*", "(ba)+", "(a|b)*", "(a|b)*b", "a*b*", "aa|bbb",
               "(aa)*", "(aaa)*|b", "a(a|b)?b", "(a|bb)*", "c", "(ac)*"]
FORMATS = [(Format.parse(text), tree_texts(parse_expression(text), LONGEST)) for text in EXPRESSIONS]


def shown(made):
    return [made.rows(), made.accepting()]


class Signs(Case):

    def assert_texts(self, made, texts):
        self.assertIs(type(made), Format)
        self.assertEqual(table_texts(made.rows(), made.accepting(), LONGEST), texts)

    def test_examples(self):
        merged = Format([{"a": 1, "b": 2}, {"a": 1}, {"a": 2}], [1, 2, 2])
        found = [(merged & Format.parse("b*a*")).accepting(), Format.parse("ab|ab") == Format.parse("ab"),
                 Format.parse("a").is_within(merged), Format.parse("a?").repeated().size]
        self.assertEqual(found, [[1], True, True, 1])

    def test_signs_of_all_pairs(self):
        for one, some in FORMATS:
            for other, more in FORMATS:
                self.assert_texts(one | other, some | more)
                self.assert_texts(one & other, some & more)
                self.assert_texts(one - other, some - more)

    def test_methods_do_as_the_signs(self):
        for one, _ in FORMATS:
            for other, _ in FORMATS:
                self.assertEqual(shown(one.union(other)), shown(one | other))
                self.assertEqual(shown(one.intersection(other=other)), shown(one & other))
                self.assertEqual(shown(one.difference(other=other)), shown(one - other))
        self.assertEqual(Format.parse("a").union(other=Format.parse("b")), Format.parse("a|b"))

    def test_results_have_smallest_tables(self):
        for one, _ in FORMATS:
            for other, _ in FORMATS:
                for made in (one | other, one & other, one - other):
                    self.assertEqual(faults_of_smallest(*shown(made)), [])

    def test_equality(self):
        for here, (one, _) in enumerate(FORMATS):
            for there, (other, _) in enumerate(FORMATS):
                self.assertIs(one == other, here == there)
                self.assertIs(one != other, here != there)
        for value in other_values():
            if not isinstance(value, Format):
                self.assertIs(Format.parse("a") == value, False)
                self.assertIs(Format.parse("a") != value, True)

    def test_equal_formats_from_tables_expressions_and_operations(self):
        made = [Format.parse("(a|b)*b"), Format([{"b": 1, "a": 2}, {"b": 1, "a": 2}, {"a": 0, "b": 1}], [1]),
                Format.parse("(a|b)*").followed_by(Format.parse("b")), Format.parse("(a|b)*") - Format.parse("(b*a)*"),
                Format.parse("a*b").repeated() - Format.parse(""), Format.parse("(b|ab)*b") | Format.parse("(a|b)*ab+")]
        for other in made:
            self.assertEqual(made[0], other)
            self.assertEqual(shown(made[0]), shown(other))

    def test_is_within(self):
        for one, some in FORMATS:
            for other, more in FORMATS:
                self.assertIs(one.is_within(other), some <= more)
                self.assertIs(one.is_within(other=other), some <= more)

    def test_followed_by(self):
        for one, some in FORMATS:
            for other, more in FORMATS:
                made = one.followed_by(other)
                self.assert_texts(made, joined(some, more, LONGEST))
                self.assertEqual(faults_of_smallest(*shown(made)), [])
        self.assertEqual(Format.parse("a").followed_by(other=Format.parse("b")), Format.parse("ab"))

    def test_repeated(self):
        for one, some in FORMATS:
            self.assert_texts(one.repeated(), repeated(some, LONGEST))
            self.assertEqual(faults_of_smallest(*shown(one.repeated())), [])

    def test_repeated_where_a_circle_comes_back_to_the_start(self):
        self.assertIs("a" in Format.parse("(ab)*ac").repeated(), False)
        self.assertIs("" in Format.parse("(ab)*ac").repeated(), True)
        self.assertIs("abab" in Format.parse("(ab)*ac").repeated(), False)
        self.assertEqual(Format.parse("0").repeated(), Format.parse(""))

    def test_wrong_arguments(self):
        for one in (Format.parse("a*"), Format.parse("0")):
            for value in other_values() + ["a", [{}], Format]:
                if not isinstance(value, Format):
                    for call in (one.union, one.intersection, one.difference, one.is_within, one.followed_by):
                        self.assert_raises(InvalidFormat, value, call, value)

    def test_formats_stay_as_they_are(self):
        for one, _ in FORMATS[:8]:
            for other, _ in FORMATS[:8]:
                before = [shown(one), shown(other)]
                for made in (one | other, one & other, one - other, one.followed_by(other), one.repeated()):
                    made.rows().append({})
                    made.accepting().append(7)
                one.is_within(other)
                self.assertEqual([shown(one), shown(other)], before)

    def test_a_format_with_itself(self):
        for one, _ in FORMATS:
            self.assertEqual([one | one, one & one, (one - one).is_empty(), one.is_within(one)], [one, one, True, True])

    def test_results_are_arguments_again(self):
        made = Format.parse("(ab?)*")
        for _ in range(5):
            made = (made.followed_by(Format.parse("aab")) | made).repeated() & Format.parse("(a|b)*")
            self.assertEqual(Format(made.rows(), made.accepting()), made)


class Guarantees(Case):

    def test_renamed_letters(self):
        names = {"a": "x", "b": "k", "c": "p"}
        for text in ("(ab|c)*a?", "a|bc|ccc", "b(a|bb)*|ab", "(a|b)*b", "0", ""):
            other = "".join(names.get(sign, sign) for sign in text)
            one, renamed = Format.parse(text), Format.parse(other)
            self.assertEqual([one.size, one.is_empty(), one.is_finite()],
                             [renamed.size, renamed.is_empty(), renamed.is_finite()])

    def test_renamed_letters_in_the_same_order(self):
        names = {"a": "d", "b": "m", "c": "z"}
        for text in ("(ab|c)*a?", "a|bc|ccc", "b(a|bb)*|ab", "(a|b)*b"):
            one = Format.parse(text)
            renamed = Format.parse("".join(names.get(sign, sign) for sign in text))
            rows = [{names[letter]: row[letter] for letter in row} for row in one.rows()]
            self.assertEqual(shown(renamed), [rows, one.accepting()])
