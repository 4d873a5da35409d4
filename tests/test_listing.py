"""Tests of [41] to [43]: first and missing texts, counting and listing texts, and their numbers."""

from itertools import islice

from formatrepair.errors import InvalidFormat, InvalidInteger, InvalidText, MissingText, NotIncluded, TooMany
from formatrepair.expressions import parse_expression
from formatrepair.formats import Format
from formatrepair.listing import count_texts, first_texts, missing_text, number_of, shortest_text, text_at, texts

from oracle import table_texts, texts_up_to, tree_texts
from support import Case, other_values

LONGEST = 6
EXPRESSIONS = ["0", "", "a", "b", "abc", "a?", "a|bc|ccc", "ccc|bc|a", "b|a|ab|aa", "a*", "b+", "(ab)*", "(aa)*b",
               "(a|b)*", "(a|b)*b", "a*b*", "(aaa)*|b", "a(a|b)?b", "(a|bb)*", "(ac)*b?", "(a|b)(a|b)(a|b)", "b*a|c",
               "(aaaa)+", "|b|bb", "(ab|c)*", "(a|b|c|d|e|f)(a|f)?", "f*(a|c|e)"]
FORMATS = [(Format.parse(text), tree_texts(parse_expression(text), LONGEST)) for text in EXPRESSIONS]
AB = Format.parse("(a|b)*b")


def in_order(found):
    return sorted(found, key=lambda text: (len(text), text))


def circle(size):
    """Return the format of the texts of as many letters a as a multiple of the size."""
    return Format([{"a": (state + 1) % size} for state in range(size)], [0])


def row_of(length):
    """Return the format of the one text of so many letters a."""
    made = Format.parse("")
    for _ in range(length // 40):
        made = made.followed_by(Format.parse("a" * 40))
    return made.followed_by(Format.parse("a" * (length - length // 40 * 40)))


def not_formats():
    return [value for value in other_values() if not isinstance(value, Format)] + ["a*", [{}], Format]


class First(Case):

    def test_example(self):
        found = [shortest_text(Format.parse("(aa)*b")), missing_text(Format.parse("a*"), Format.parse("(aa)*")),
                 missing_text(Format.parse("a"), Format.parse("a*"))]
        self.assertEqual(found, ["b", "a", None])

    def test_shortest_text(self):
        for made, found in FORMATS:
            self.assertEqual(shortest_text(made), in_order(found)[0] if found else None)
            self.assertEqual(shortest_text(text_format=made), shortest_text(made))

    def test_shortest_text_is_the_alphabetically_first_one(self):
        for text, first in (("ba|ab", "ab"), ("bb|ba|cc", "ba"), ("aaa|c", "c"), ("(b|c)(a|b)a|ca*b", "cb"),
                            ("b(c|b)|abc", "bb"), ("aab|aba|baa", "aab"), ("0", None), ("", "")):
            self.assertEqual(shortest_text(Format.parse(text)), first)

    def test_long_shortest_text(self):
        self.assertEqual(shortest_text(row_of(1000)), "a" * 1000)
        self.assertEqual(missing_text(Format.parse("a*"), Format.parse("a*") - row_of(700)), "a" * 700)

    def test_missing_text(self):
        for one, some in FORMATS:
            for other, more in FORMATS:
                left = in_order(some - more)
                self.assertEqual(missing_text(one, other), left[0] if left else None)
        self.assertEqual(missing_text(other=Format.parse("a"), one=Format.parse("a?")), "")

    def test_wrong_formats(self):
        good = Format.parse("a")
        for value in not_formats():
            self.assert_raises(InvalidFormat, value, shortest_text, value)
            self.assert_raises(InvalidFormat, value, missing_text, value, good)
            self.assert_raises(InvalidFormat, value, missing_text, good, value)
        first, second = [], []
        self.assert_raises(InvalidFormat, first, missing_text, first, second)


class Counting(Case):

    def test_example(self):
        found = [count_texts(AB, 3), first_texts(AB, 4), list(texts(AB, 1)), list(texts(AB, 0))]
        self.assertEqual(found, [4, ["b", "ab", "bb", "aab"], ["b"], []])

    def test_count_texts(self):
        for made, found in FORMATS:
            for length in range(LONGEST + 1):
                many = count_texts(made, length)
                self.assertEqual(many, len([text for text in found if len(text) == length]))
                self.assertIs(type(many), int)
        self.assertEqual(count_texts(length=1, text_format=AB), 1)

    def test_counts_of_long_texts(self):
        self.assertEqual(count_texts(Format.parse("(a|b|c)*"), 400), 3 ** 400)
        self.assertEqual(count_texts(AB, 400), 2 ** 399)
        self.assertEqual([count_texts(circle(40), length) for length in (0, 1, 399, 400)], [1, 0, 0, 1])
        self.assertEqual([count_texts(Format.parse("0"), 400), count_texts(Format.parse(""), 0)], [0, 1])

    def test_texts_and_first_texts(self):
        for made, found in FORMATS:
            ordered = in_order(found)
            for longest in range(LONGEST + 1):
                self.assertEqual(list(texts(made, longest)), [text for text in ordered if len(text) <= longest])
            for count in range(min(len(ordered), 20)):
                self.assertEqual(first_texts(made, count), ordered[:count])
            if made.is_finite():
                self.assertEqual(first_texts(made, 500), ordered)
                self.assertEqual(list(texts(made, 400)), ordered)
        self.assertEqual(list(texts(longest=1, text_format=AB)), ["b"])
        self.assertEqual(first_texts(count=1, text_format=AB), ["b"])

    def test_bounds(self):
        ends = Format.parse("a*")
        self.assertEqual(list(texts(ends, 0)), [""])
        self.assertEqual(list(texts(ends, 400)), ["a" * length for length in range(401)])
        self.assertEqual([first_texts(ends, 0), len(first_texts(ends, 500))], [[], 500])
        self.assertEqual(first_texts(AB, 500), list(islice(texts(AB, 400), 500)))

    def test_first_texts_may_be_longer_than_a_text_argument(self):
        self.assertEqual(first_texts(circle(40), 30), ["a" * 40 * number for number in range(30)])
        self.assertEqual(first_texts(row_of(450), 500), ["a" * 450])

    def test_texts_leaves_out_longer_ones(self):
        self.assertEqual([text.count("a") for text in texts(circle(40), 399)], list(range(0, 361, 40)))
        self.assertEqual(list(texts(row_of(401), 400)), [])
        self.assertEqual(list(texts(row_of(400), 400)), ["a" * 400])

    def test_first_texts_do_not_wait_for_later_ones(self):
        many = Format.parse("(a|b|c|d|e|f)*")
        self.assertEqual(list(islice(texts(many, 400), 50)), texts_up_to("abcdef", 2)[:43] + ["aaa", "aab", "aac", "aad",
                                                                                               "aae", "aaf", "aba"])
        late = Format.parse("(a|b)*").followed_by(row_of(100))
        self.assertEqual(list(islice(texts(late, 400), 3)), ["a" * 100, "a" * 101, "b" + "a" * 100])

    def test_exceptions_of_texts_come_with_its_first_text(self):
        for values in ((None, 1), (AB, -1), (AB, True), ("a", "b")):
            waiting = texts(*values)
            with self.assertRaises((InvalidFormat, InvalidInteger)):
                next(waiting)

    def test_results_are_new_lists(self):
        first_texts(AB, 3).clear()
        self.assertEqual(first_texts(AB, 3), ["b", "ab", "bb"])
        self.assertIsNot(first_texts(AB, 3), first_texts(AB, 3))

    def test_wrong_arguments(self):
        calls = [(count_texts, 401), (lambda made, longest: list(texts(made, longest)), 401), (first_texts, 501)]
        for call, beyond in calls:
            for value in not_formats():
                self.assert_raises(InvalidFormat, value, call, value, 1)
                self.assert_raises(InvalidFormat, value, call, value, None)
            for value in other_values() + [beyond, -1]:
                self.assert_raises(InvalidInteger, value, call, AB, value)
                self.assert_raises(InvalidInteger, value, call, Format.parse("0"), value)


class Numbers(Case):

    def test_example(self):
        found = [text_at(AB, 3), number_of(AB, "bb"), text_at(Format.parse("(ab)*"), 3)]
        self.assertEqual(found, ["aab", 2, "ababab"])
        self.assert_raises(MissingText, 2, text_at, Format.parse("a|b"), 2)

    def test_numbers_of_all_short_texts(self):
        for made, found in FORMATS:
            for number, text in enumerate(in_order(found)[:60]):
                self.assertEqual(text_at(made, number), text)
                self.assertEqual(number_of(made, text), number)
                self.assertIs(type(number_of(made, text)), int)
        self.assertEqual(text_at(number=0, text_format=AB), "b")
        self.assertEqual(number_of(text="b", text_format=AB), 0)

    def test_numbers_of_thirty_digits(self):
        for text in ("(a|b)*b", "(a|b|c|d|e|f)*", "a(bc|d)*a?", "(ab|b)*", "(z|a)*m(b|q)?"):
            made = Format.parse(text)
            for number in (10 ** 29, 10 ** 30 - 1, 123456789012345678901234567890):
                self.assertEqual(number_of(made, text_at(made, number)), number)

    def test_long_texts_have_numbers(self):
        for made, text in ((AB, "ab" * 200), (Format.parse("(a|b)*"), "b" * 400), (Format.parse("a*b?"), "a" * 399 + "b")):
            number = number_of(made, text)
            self.assertEqual(text_at(made, number), text)
        self.assertEqual(number_of(Format.parse("(a|b)*"), "b" * 400), 2 ** 401 - 2)

    def test_texts_of_400_letters_and_more(self):
        self.assertEqual(text_at(Format.parse("a*"), 400), "a" * 400)
        self.assert_too_many(Format.parse("a*"), 401)
        self.assert_too_many(Format.parse("a*"), 10 ** 30 - 1)
        self.assertEqual(text_at(circle(40), 10), "a" * 400)
        self.assert_too_many(circle(40), 11)
        self.assertEqual(text_at(row_of(400), 0), "a" * 400)
        self.assert_too_many(row_of(401), 0)

    def test_missing_texts_come_ahead_of_too_long_ones(self):
        for length in (399, 400, 401, 500):
            self.assert_raises(MissingText, 1, text_at, row_of(length), 1)
        both = row_of(401) | row_of(402) | Format.parse("b")
        self.assertEqual(text_at(both, 0), "b")
        self.assert_too_many(both, 1)
        self.assert_too_many(both, 2)
        self.assert_raises(MissingText, 3, text_at, both, 3)

    def assert_too_many(self, made, number):
        with self.assertRaises(TooMany) as caught:
            text_at(made, number)
        self.assertEqual(caught.exception.count, 401)

    def test_missing_texts(self):
        for made, found in FORMATS:
            if made.is_finite():
                for number in (len(found), len(found) + 1, 10 ** 30 - 1):
                    self.assert_raises(MissingText, number, text_at, made, number)

    def test_texts_that_are_not_included(self):
        for made, found in FORMATS:
            for text in texts_up_to("abz", 3):
                if text not in found:
                    self.assert_raises(NotIncluded, text, number_of, made, text)

    def test_wrong_arguments(self):
        for value in not_formats():
            self.assert_raises(InvalidFormat, value, text_at, value, 0)
            self.assert_raises(InvalidFormat, value, text_at, value, -1)
            self.assert_raises(InvalidFormat, value, number_of, value, "b")
            self.assert_raises(InvalidFormat, value, number_of, value, 1)
        for value in other_values():
            if value != 10 ** 30 - 1:
                self.assert_raises(InvalidInteger, value, text_at, AB, value)
                self.assert_raises(InvalidInteger, value, text_at, Format.parse("0"), value)
            self.assert_raises(InvalidText, value, number_of, AB, value)
            self.assert_raises(InvalidText, value, number_of, Format.parse("0"), value)


class Guarantees(Case):

    def test_formats_are_sets_of_texts(self):
        one, other = Format.parse("(a*b)+"), Format([{"a": 2, "b": 1}, {"a": 0, "b": 1}, {"a": 0, "b": 1}], [1])
        self.assertEqual(one, AB)
        for made in (one, other):
            self.assertEqual(first_texts(made, 40), first_texts(AB, 40))
            self.assertEqual([text_at(made, 99), number_of(made, "abb")], [text_at(AB, 99), number_of(AB, "abb")])
            self.assertEqual(table_texts(made.rows(), made.accepting(), 4), set(texts(AB, 4)))

    def test_renamed_letters_in_the_same_order(self):
        names = {"a": "d", "b": "m", "c": "z"}
        for text in ("(ab|c)*a?", "a|bc|ccc", "b(a|bb)*|ab", "(a|b)*b"):
            renamed = Format.parse("".join(names.get(sign, sign) for sign in text))
            expected = ["".join(names[letter] for letter in found) for found in first_texts(Format.parse(text), 50)]
            self.assertEqual(first_texts(renamed, 50), expected)
