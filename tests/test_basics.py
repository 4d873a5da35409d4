"""Tests of [12] to [14]: basic values, numbers and words."""

from formatrepair.basics import is_integer, is_letter, is_name, is_text, parse_count, split_words
from formatrepair.errors import InvalidInteger, InvalidLine

from support import Case, other_values

LETTERS = "abcdefghijklmnopqrstuvwxyz"
STRANGE = ["`", "{", "A", "Z", "0", "9", " ", "\n", "-", "~", "_", "<", "\u00e9", "\u00df", "\u0430", "\uff41"]


class Kinds(Case):

    def test_example(self):
        found = [is_integer(7), is_integer(True), is_letter("a"), is_letter("ab"), is_text(""), is_name("")]
        self.assertEqual(found, [True, False, True, False, True, False])

    def assert_kinds(self, value, integer, letter, text, name):
        for ask, expected in ((is_integer, integer), (is_letter, letter), (is_text, text), (is_name, name)):
            self.assertIs(ask(value), expected)
            self.assertIs(ask(value=value), expected)

    def test_integers(self):
        for value in (0, 1, -1, 10 ** 30 - 1, 1 - 10 ** 30, 10 ** 3000):
            self.assert_kinds(value, True, False, False, False)

    def test_truth_values_are_nothing(self):
        for value in (True, False, None):
            self.assert_kinds(value, False, False, False, False)

    def test_letters(self):
        for letter in LETTERS:
            self.assert_kinds(letter, False, True, True, True)

    def test_other_characters(self):
        for sign in STRANGE:
            for value in (sign, "a" + sign, sign + "a", "a" + sign + "a", sign + sign):
                self.assert_kinds(value, False, False, False, False)

    def test_lengths(self):
        self.assert_kinds("", False, False, True, False)
        self.assert_kinds("ab", False, False, True, True)
        self.assert_kinds("a" * 8, False, False, True, True)
        self.assert_kinds("a" * 9, False, False, True, False)
        self.assert_kinds("z" * 401, False, False, True, False)

    def test_very_long_strings(self):
        self.assert_kinds("az" * 100000, False, False, True, False)
        self.assert_kinds("az" * 100000 + "A", False, False, False, False)

    def test_values_of_other_kinds(self):
        for value in other_values():
            if not isinstance(value, (int, str)) or isinstance(value, bool):
                self.assert_kinds(value, False, False, False, False)
        for value in (b"a", 1.0, ["a", "b"], ("a", "b"), object(), str, InvalidLine("a")):
            self.assert_kinds(value, False, False, False, False)


class Counts(Case):

    def test_example(self):
        found = [parse_count("12"), parse_count("012"), parse_count("-3"), parse_count("-3", minimum=None),
                 parse_count("9", maximum=8)]
        self.assertEqual(found, [12, None, None, -3, None])

    def test_numbers_are_read_back(self):
        for number in [*range(-120, 121), 10 ** 29, 10 ** 30 - 1, 1 - 10 ** 30]:
            found = parse_count(str(number), minimum=None)
            self.assertEqual(found, number)
            self.assertIs(type(found), int)

    def test_strings_that_are_no_numbers(self):
        wrong = ["", "-", "--1", "+1", "-0", "00", "01", "-01", "1-", "1 ", " 1", "1\n", "\n1", "1_0", "1.0",
                 "1e3", "0x1", "a", "\u0661", "\u00b2", "1\u0662", "\uff11", "- 1", "none", "True", "1,0"]
        for text in wrong:
            self.assertIsNone(parse_count(text, minimum=None), text)

    def test_digits(self):
        self.assertEqual(parse_count("9" * 30), 10 ** 30 - 1)
        self.assertEqual(parse_count("-" + "9" * 30, minimum=None), 1 - 10 ** 30)
        self.assertIsNone(parse_count("9" * 31))
        self.assertIsNone(parse_count("1" + "0" * 30))
        self.assertIsNone(parse_count("-1" + "0" * 30, minimum=None))
        self.assertIsNone(parse_count("9" * 20000))

    def test_zero(self):
        self.assertEqual(parse_count("0"), 0)
        self.assertEqual(parse_count("0", minimum=None, maximum=0), 0)
        self.assertIsNone(parse_count("0", minimum=1))
        self.assertIsNone(parse_count("-0", minimum=None))

    def test_limits_on_both_sides(self):
        for number in range(-4, 5):
            for low in (None, -3, 0, 2):
                for high in (None, -2, 0, 3):
                    inside = (low is None or low <= number) and (high is None or number <= high)
                    expected = number if inside else None
                    self.assertEqual(parse_count(str(number), minimum=low, maximum=high), expected)

    def test_the_minimum_is_zero_unless_given(self):
        self.assertIsNone(parse_count("-1"))
        self.assertIsNone(parse_count("-1", maximum=5))
        self.assertEqual(parse_count(text="7"), 7)

    def test_values_that_are_no_strings(self):
        for value in other_values():
            if not isinstance(value, str):
                self.assertIsNone(parse_count(value, minimum=None))

    def test_wrong_limits_whatever_the_text_is(self):
        for limit in other_values():
            if limit is None or isinstance(limit, int) and not isinstance(limit, bool):
                continue
            for text in ("1", "x", "", None, [], "9" * 31):
                self.assert_raises(InvalidInteger, limit, parse_count, text, minimum=limit)
                self.assert_raises(InvalidInteger, limit, parse_count, text, maximum=limit)
                self.assert_raises(InvalidInteger, limit, parse_count, text, minimum=limit, maximum="x")
                self.assert_raises(InvalidInteger, limit, parse_count, text, minimum=None, maximum=limit)

    def test_limits_are_given_by_name(self):
        with self.assertRaises(TypeError):
            parse_count("1", 0)


class Words(Case):

    def test_example(self):
        self.assertEqual([split_words("put old a*"), split_words("")], [["put", "old", "a*"], []])

    def test_words_are_returned_as_they_are(self):
        for words in (["a"], ["a", "b"], ["-", "0", "(a|<b>)*", "A1", "~!"], ["x"] * 500):
            self.assertEqual(split_words(" ".join(words)), words)
        self.assertEqual(split_words(line="a b"), ["a", "b"])

    def test_spaces_and_line_feeds(self):
        wrong = [" ", "  ", "\n", " a", "a ", "a  b", "a   b", "\na", "a\n", "a\nb", "a \nb", "a\n b", " a b",
                 "a b ", "a b\n", "\n\n", " \n", "a b  c"]
        for line in wrong:
            self.assert_raises(InvalidLine, line, split_words, line)

    def test_values_that_are_no_strings(self):
        for value in other_values():
            if not isinstance(value, str):
                self.assert_raises(InvalidLine, value, split_words, value)

    def test_each_call_returns_a_new_list(self):
        for line in ("", "a b"):
            first = split_words(line)
            first.append("c")
            self.assertEqual(split_words(line), line.split())
