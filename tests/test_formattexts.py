"""Tests of [131] to [136]: strings of lines, what is read back, and the first line that is wrong."""

import re
from collections import Counter
from random import Random

from formatrepair.comparisons import Comparison
from formatrepair.errors import InvalidFormat, InvalidList, InvalidPattern, InvalidPrices, InvalidRow, InvalidScript, InvalidText
from formatrepair.formats import Format
from formatrepair.formattexts import read_bounds, read_format, read_pattern, read_prices, read_script, write_bounds, write_format
from formatrepair.formattexts import write_pattern, write_prices, write_script
from formatrepair.prices import Prices

from drawn import drawn_cases, drawn_format, drawn_patterns, drawn_prices
from support import Case, lists_in, not_formats, other_values, with_tuples
from test_comparisons import ONE, PAIRS
from test_formats import all_tables
from test_patterns import nested, not_patterns
from test_scripts import not_prices

READERS = [read_format, read_prices, read_script, read_pattern, read_bounds]
HUGE = 10 ** 30 - 1
NUMBER = "(0|[1-9][0-9]{0,29})"


def listed(value):
    """Return the value with lists where tuples stand in the place of lists of costs and entries."""
    return [(state, list(costs)) for state, costs in value]


def patterned(value):
    return [item if isinstance(item, str) else ("repeat", patterned(item[1])) for item in value]


class Told:
    """The index of a wrong or missing line, as the document tells."""

    def __init__(self, index):
        self.index = index


def told_of(lines, header, row, many, complete=lambda found: True):
    """Read lines by regular expressions; row tells what a line stands for, or None."""
    if not re.fullmatch(header, lines[0]):
        return Told(0)
    most = many(lines[0])
    found = []
    for index, line in enumerate(lines[1:], 1):
        item = row(line, found) if most is None or index <= most else None
        if item is None:
            return Told(index)
        found.append(item)
    if most is not None and len(found) < most or not complete(found):
        return Told(len(lines))
    return found


def last_number(header):
    return int(header.split(" ")[1])


def told_format(text):
    lines = text.split("\n")

    def row(line, found):
        letters = re.findall(r" ([a-z]) ([0-9]+)", line)
        right = re.fullmatch(rf"(accepting|other)( [a-z] {NUMBER})*", line) and letters == sorted(dict(letters).items())
        good = right and all(int(state) < last_number(lines[0]) for _, state in letters)
        return (line.startswith("accepting"), {letter: int(state) for letter, state in letters}) if good else None

    found = told_of(lines, f"format {NUMBER}", row, last_number)
    if isinstance(found, Told):
        return found
    return Format([row for _, row in found], [state for state, (accepts, _) in enumerate(found) if accepts])


def told_prices(text):
    lines = text.split("\n")
    alphabet = lines[0][len("prices "):]

    def row(line, found):
        if not re.fullmatch(rf"([-{alphabet}]) (?!\1)[-{alphabet}] ([0-9]|none)", line):
            return None
        pair, price = (line[0].replace("-", ""), line[2].replace("-", "")), None if line[4:] == "none" else int(line[4:])
        return None if pair in [other for other, _ in found] else (pair, price)

    if list(alphabet) != sorted(set(alphabet)):
        return Told(0)
    found = told_of(lines, "prices [a-z]{1,6}", row, lambda header: None)
    return found if isinstance(found, Told) else Prices(alphabet, dict(found))


def told_script(text):
    def row(line, found):
        return tuple(word.replace("-", "") for word in line.split(" ")) if re.fullmatch("(?!- -)[-a-z] [-a-z]", line) else None

    return told_of(text.split("\n"), f"script {NUMBER}", row, last_number)


def told_pattern(text):
    groups = [[]]

    def row(line, found):
        if re.fullmatch("letter [a-z]", line):
            groups[-1].append(line[-1])
        elif line == "repeat" and len(groups) < 101:
            groups.append([])
        elif line == "end" and len(groups) > 1 and groups[-1]:
            inner = groups.pop()
            groups[-1].append(("repeat", inner))
        else:
            return None
        return line

    found = told_of(text.split("\n"), "pattern", row, lambda header: None, lambda found: len(groups) == 1 and groups[0])
    return found if isinstance(found, Told) else groups[0]


def told_bounds(text):
    def row(line, found):
        if not re.fullmatch(f"{NUMBER}( ({NUMBER}|none))*", line) or found and len(found[0][1]) != line.count(" "):
            return None
        state, *costs = line.split(" ")
        return int(state), [None if cost == "none" else int(cost) for cost in costs]

    return told_of(text.split("\n"), f"bounds {NUMBER}", row, last_number)


TOLD = {read_format: told_format, read_prices: told_prices, read_script: told_script, read_pattern: told_pattern,
        read_bounds: told_bounds}


class Checked(Case):

    def assert_read(self, read, text):
        """The string is read, or refused, as the document tells; returns what was read."""
        told = TOLD[read](text)
        if isinstance(told, Told):
            with self.assertRaises(InvalidRow) as caught:
                read(text)
            self.assertEqual(caught.exception.index, told.index, text)
            self.assertIs(type(caught.exception.index), int)
            return told
        found = read(text)
        self.assertEqual(found, told)
        self.assertEqual(repr(found) if isinstance(found, list) else 0, repr(told) if isinstance(found, list) else 0)
        return found

    def assert_row(self, index, read, text):
        with self.assertRaises(InvalidRow) as caught:
            read(text)
        self.assertEqual(caught.exception.index, index)
        self.assertEqual(TOLD[read](text).index, index)

    def assert_changes(self, read, texts, words, seed):
        """Strings that are right but for one or two changes are read or refused as the document tells."""
        random = Random(seed)
        seen = Counter()
        for text in texts:
            lines = text.split("\n")
            for place in range(len(lines)):
                for other in (lines[:place] + lines[place + 1:], lines[:place] + [lines[place]] + lines[place:],
                              lines[:place] + [""] + lines[place:], lines[:place] + lines[place + 1:place + 2] + [lines[place]] + lines[place + 2:],
                              lines[:place], lines[:place] + [lines[place] + " "] + lines[place + 1:],
                              lines[:place] + [" " + lines[place]] + lines[place + 1:], lines[:place] + [""] + lines[place + 1:],
                              lines[:place] + [lines[place].replace(" ", "  ", 1)] + lines[place + 1:],
                              lines[:place] + [lines[place].upper()] + lines[place + 1:], lines + [lines[place]]):
                    self.count(seen, self.assert_read(read, "\n".join(other)))
                split = lines[place].split(" ")
                for at in range(len(split) + 1):
                    for word in words:
                        for changed in (split[:at] + [word] + split[at + 1:], split[:at] + [word] + split[at:], split[:at] + split[at + 1:]):
                            if random.random() < 0.3:
                                other = lines[:place] + [" ".join(changed)] + lines[place + 1:]
                                self.count(seen, self.assert_read(read, "\n".join(other)))
                                other.insert(random.randrange(len(other) + 1), random.choice(lines))
                                self.count(seen, self.assert_read(read, "\n".join(other)))
            for ending in ("\n", "\n\n", " ", "\n ", "\n" + lines[0]):
                self.count(seen, self.assert_read(read, text + ending))
        self.assertGreater(min(seen["read"], seen[0], seen[1], seen["later"]), 10)

    def count(self, seen, found):
        index = found.index if isinstance(found, Told) else "read"
        seen[index if index in ("read", 0, 1) else "later"] += 1


class Lines(Checked):

    def test_values_that_are_no_strings(self):
        for value in other_values():
            if not isinstance(value, str):
                for read in READERS:
                    self.assert_raises(InvalidText, value, read, value)

    def test_the_empty_string_has_one_line(self):
        for read in READERS:
            for text in ("", " ", "\n", "\n\n", "a", "format", "prices", "script", "bounds", "pattern ", " pattern", "pattern 1", "Pattern",
                         "format -1", "format 01", "format  1", "format 1 ", "format x", "format 1 1", "script none", "bounds -",
                         "bounds " + "1" * 31, "prices", "prices ", "prices ba", "prices aa", "prices abcdefg", "prices A", "prices a b",
                         "prices -", "formats 0", "script", "script +1", "1 format"):
                if text != "pattern":
                    self.assert_row(0, read, text)

    def test_by_name(self):
        self.assertEqual([read_format(text="format 0"), read_prices(text="prices q"), read_script(text="script 0"), read_bounds(text="bounds 0"),
                          read_pattern(text="pattern\nletter a")], [Format.parse("0"), Prices("q", {}), [], [], ["a"]])
        self.assertEqual([write_format(text_format=Format.parse("0")), write_prices(prices=Prices("q", {})), write_script(script=[]),
                          write_bounds(table=[]), write_pattern(pattern=("a",))],
                         ["format 0", "prices q", "script 0", "bounds 0", "pattern\nletter a"])

    def test_missing_lines(self):
        for read, text, index in ((read_format, "format 2\nother a 1", 2), (read_format, "format 1", 1), (read_format, "format " + "9" * 30, 1),
                                  (read_script, "script 3\na b\n- c", 3), (read_bounds, "bounds 1", 1), (read_pattern, "pattern", 1),
                                  (read_pattern, "pattern\nrepeat", 2), (read_pattern, "pattern\nrepeat\nletter a", 3),
                                  (read_pattern, "pattern\nletter a\nrepeat\nletter b\nrepeat\nletter c\nend", 7)):
            self.assert_row(index, read, text)

    def test_the_first_wrong_line_is_told(self):
        for read, text, index in ((read_format, "format 3\nother b 1 a 2\nother a 9", 1), (read_format, "format 3\nother a 3\nother", 1),
                                  (read_format, "format 1\nother a 0\nother", 2), (read_format, "format 2\nother\n\nother", 2),
                                  (read_script, "script 1\na b\na b\n- -", 2), (read_script, "script 3\na b\n- -", 2),
                                  (read_script, "script 0\n", 1), (read_bounds, "bounds 2\n0 1\n0 1 2\nx", 2),
                                  (read_bounds, "bounds 3\n0 1\n0 x\n0 1 2", 2), (read_pattern, "pattern\nletter a\nend\nletter", 2),
                                  (read_prices, "prices ab\na b 1\nb a 10\nx", 2), (read_prices, "prices ab\na b 1\na b none", 2)):
            self.assert_row(index, read, text)


class Formats(Checked):

    def test_examples(self):
        found = [write_format(Format.parse("(ab)*")), read_format("format 2\nother a 1 b 1\naccepting") == Format.parse("a|b")]
        self.assertEqual(found, ["format 2\naccepting a 1\nother b 0", True])

    def test_what_is_written(self):
        for expression, text in (("0", "format 0"), ("", "format 1\naccepting"), ("(z|a)*", "format 1\naccepting a 0 z 0"),
                                 ("a|bb", "format 3\nother a 1 b 2\naccepting\nother b 1")):
            self.assertEqual(write_format(Format.parse(expression)), text)
        for value in not_formats():
            self.assert_raises(InvalidFormat, value, write_format, value)

    def test_read_back(self):
        for prices, first, second in drawn_cases(132, 30, "abz", ((1, 6), (1, 6))):
            for made in (first, second, first | second):
                self.assertEqual(self.assert_read(read_format, write_format(made)), made)

    def test_tables_that_are_not_the_smallest(self):
        for rows, accepting in all_tables(1) + all_tables(2)[::3]:
            lines = [" ".join(["accepting" if state in accepting else "other", *[f"{letter} {row[letter]}" for letter in sorted(row)]])
                     for state, row in enumerate(rows)]
            self.assertEqual(self.assert_read(read_format, "\n".join([f"format {len(rows)}", *lines])), Format(rows, accepting))
        self.assertEqual(read_format("format 3\naccepting a 1\naccepting a 0\nother b 2"), Format.parse("a*"))

    def test_more_than_forty_states(self):
        chain = "\n".join(["format 60", *[f"other b {state + 1}" for state in range(59)], "accepting"])
        self.assertEqual(write_format(read_format(chain)), chain)
        self.assertEqual(read_format(chain), Format.parse("b" * 59))
        circle = "\n".join(["format 300", *[f"accepting a {(state + 1) % 300}" for state in range(300)]])
        self.assertEqual(read_format(circle), Format.parse("a*"))

    def test_changes(self):
        made = [Format.parse(text) for text in ("0", "", "(ab)*", "a|bb", "(a|b)*ba", "ab?c")]
        self.assert_changes(read_format, list(map(write_format, made)), ["other", "accepting", "a", "b", "A", "0", "1", "2", "02", "-1", "none",
                                                                         "1" * 30, "1" * 31, "aa", "-"], 132)


class PriceTables(Checked):

    def test_examples(self):
        found = [write_prices(Prices("ba", {("a", "b"): 3, ("", "a"): 0})), read_prices("prices ab\nb - 9\n- b none").price("b", "")]
        self.assertEqual(found, ["prices ab\n- a 0\na b 3", 9])

    def test_what_is_written(self):
        self.assertEqual(write_prices(Prices("ba", {("a", "b"): None}, default=2)), "prices ab\n- a 2\n- b 2\na - 2\nb - 2\nb a 2")
        self.assertEqual(write_prices(Prices("zyx", {})), "prices xyz")
        for value in not_prices():
            self.assert_raises(InvalidPrices, value, write_prices, value)

    def test_read_back_in_any_order(self):
        random = Random(133)
        for letters in ("a", "bq", "abc", "fdbeca"):
            for _ in range(15):
                prices = drawn_prices(random, letters)
                header, *lines = write_prices(prices).split("\n")
                self.assertEqual(self.assert_read(read_prices, "\n".join([header, *lines])), prices)
                random.shuffle(lines)
                self.assertEqual(self.assert_read(read_prices, "\n".join([header, *lines])), prices)

    def test_prices_of_none(self):
        self.assertEqual(read_prices("prices ab\na b none\n- a none"), Prices("ab", {}))
        self.assert_row(3, read_prices, "prices ab\na b none\n- a 1\na b 1")

    def test_changes(self):
        texts = ["prices ab\n- a 0\na b 3\nb - none", "prices c\n- c 9", "prices adz\na d 1\nd a 2\nz - 3\n- z 4\na - none", "prices x"]
        self.assert_changes(read_prices, texts, ["a", "b", "c", "-", "none", "0", "9", "10", "09", "-1", "ab", "A", "", "prices", "--"], 133)


class Scripts(Checked):

    def test_examples(self):
        self.assertEqual([write_script([("a", ""), ("b", "b")]), read_script("script 1\n- c")], ["script 2\na -\nb b", [("", "c")]])

    def test_read_back(self):
        random = Random(134)
        pairs = [(x, y) for x in ("", "a", "m", "z") for y in ("", "b", "z") if x or y]
        for size in [0, 1, 2, 5, 30, 3000]:
            script = [random.choice(pairs) for _ in range(size)]
            for value in (script, tuple(script)):
                self.assertEqual(self.assert_read(read_script, write_script(value)), script)

    def test_values_that_are_no_scripts(self):
        wrong = [value for value in other_values() if value not in ([], ())]
        wrong += [[pair] for pair in (("", ""), ("a",), ("a", "b", "c"), (), ("ab", "b"), ("a", "-"), ["a", "b"], "ab", None, ("a", None),
                                      ("a", 1), ("A", "a"), (True, "b"), ("a", ["b"]), {"a": "b"})]
        wrong += [[("a", "b"), ("", "")], ("a", "b"), "ab", {("a", "b"): 1}, [("a", "b"), ["a", "b"]]]
        for value in wrong:
            self.assert_raises(InvalidScript, value, write_script, value)

    def test_changes(self):
        texts = ["script 0", "script 1\na -", "script 3\n- a\nb b\nz -", "script 2\na b\na b"]
        self.assert_changes(read_script, texts, ["a", "-", "b", "ab", "A", "0", "2", "3", "none", "script", "", "01", "1" * 31], 134)


class Patterns(Checked):

    def test_examples(self):
        found = [write_pattern(["a", ("repeat", ["b", "c"])]), read_pattern("pattern\nrepeat\nletter a\nend")]
        self.assertEqual(found, ["pattern\nletter a\nrepeat\nletter b\nletter c\nend", [("repeat", ["a"])]])
        self.assert_row(2, read_pattern, "pattern\nrepeat\nend")

    def test_read_back(self):
        for pattern in drawn_patterns(135, 60, "abz") + [["a"] * 3000, nested(1), nested(99), nested(100)]:
            for value in (pattern, with_tuples(pattern)):
                self.assertEqual(self.assert_read(read_pattern, write_pattern(value)), pattern)

    def test_values_that_are_no_patterns(self):
        for value in not_patterns():
            self.assert_raises(InvalidPattern, value, write_pattern, value)

    def test_a_hundred_open_repetitions(self):
        for levels in (100, 101, 102):
            text = "\n".join(["pattern", *["repeat"] * levels, "letter a", *["end"] * levels])
            if levels == 100:
                self.assertEqual(self.assert_read(read_pattern, text), nested(100))
            else:
                self.assert_row(101, read_pattern, text)
        row = ["repeat", "letter b", "end"]
        inner = ["pattern", *["repeat"] * 99, *row * 3, *["end"] * 99]
        self.assertEqual(self.assert_read(read_pattern, "\n".join(inner)), nested(99, [("repeat", ["b"])] * 3))
        self.assert_row(2, read_pattern, "pattern\nletter a\nend")
        self.assert_row(5, read_pattern, "pattern\nrepeat\nletter a\nrepeat\nletter b\nletter".replace("\nletter b\nletter", "\nletter b\nletter b c"))

    def test_changes(self):
        texts = [write_pattern(pattern) for pattern in (["a"], ["a", ("repeat", ["b", "c"])], [("repeat", [("repeat", ["a"]), "b"]), "z"],
                                                        [("repeat", ["a"]), ("repeat", ["b"])])]
        self.assert_changes(read_pattern, texts, ["letter", "repeat", "end", "a", "b", "A", "-", "ab", "1", "pattern", ""], 135)

    def test_results_are_new(self):
        found = read_pattern("pattern\nrepeat\nletter a\nend\nrepeat\nletter a\nend")
        parts = lists_in(found)
        self.assertEqual([len(parts), len({id(part) for part in parts})], [3, 3])


class Bounds(Checked):

    def test_examples(self):
        found = [write_bounds([(0, [0, None]), (1, [12, 0])]), read_bounds("bounds 1\n3"), read_bounds("bounds 0")]
        self.assertEqual(found, ["bounds 2\n0 0 none\n1 12 0", [(3, [])], []])

    def test_read_back(self):
        random = Random(136)
        for size in (0, 1, 2, 7, 500):
            width = random.randrange(5)
            table = [(random.choice([0, 1, 17, HUGE]), [random.choice([None, 0, 3, HUGE]) for _ in range(width)]) for _ in range(size)]
            for value in (table, with_tuples(table)):
                self.assertEqual(self.assert_read(read_bounds, write_bounds(value)), table)
        for case in drawn_cases(1361, 20):
            decision = Comparison(*case).decision()
            if decision[0] == "bounded":
                self.assertEqual(self.assert_read(read_bounds, write_bounds(decision[3])), listed(decision[3]))

    def test_values_that_are_no_tables(self):
        wrong = [value for value in other_values() if value not in ([], ())]
        wrong += [{}, "ab", (0, [0]), [(0,)], [(0, [0], 0)], [[0, [0]]], [(0, [0]), (0, [])], [(0, []), (1, [0])], [(0, [0, 1]), (0, [0]), (0, [0, 1])],
                  [([0], 0)], [(0, {0: 0})], [(0, "1")], [(0, None)], [None], [()]]
        for entry in ((-1, [0]), (True, [0]), (None, [0]), ("0", [0]), (0, [-1]), (0, [True]), (0, ["0"]), (0, [[0]]), (0, [""]),
                      (10 ** 30, [0]), (0, [10 ** 30]), (10 ** 40, [0]), (0, [10 ** 5000]), (10 ** 5000, [0])):
            wrong += [[entry], [(0, [0]), entry], [entry, (0, [0])]]
        for value in wrong:
            self.assert_raises(InvalidList, value, write_bounds, value)

    def test_bounds_of_unlike_lengths(self):
        self.assert_row(2, read_bounds, "bounds 3\n0 1\n1\n2 x")
        self.assert_row(3, read_bounds, "bounds 3\n0\n1\n2 0")
        self.assert_row(1, read_bounds, "bounds 3\nnone 1\n1 1\n2 0")

    def test_great_numbers(self):
        great = "9" * 30
        self.assertEqual(read_bounds(f"bounds 1\n{great} {great} none"), [(HUGE, [HUGE, None])])
        for line in (f"1{great} 0", f"0 1{great}", f"0 {great} 1{great}"):
            self.assert_row(1, read_bounds, f"bounds 1\n{line}")
        self.assert_row(0, read_bounds, f"bounds 1{great}\n0")
        self.assert_row(2, read_bounds, f"bounds {great}\n0")

    def test_changes(self):
        texts = ["bounds 0", "bounds 1\n3", "bounds 2\n0 0 none\n1 12 0", "bounds 3\n0 none\n1 none\n2 5"]
        self.assert_changes(read_bounds, texts, ["0", "1", "none", "-", "01", "-1", "a", "3", "", "1" * 30, "1" * 31, "None", "bounds"], 136)


class Together(Checked):

    def test_arguments_stay(self):
        table, pattern, script = [(0, [None, 1])], ["a", ("repeat", ["b"])], [("a", "b")]
        write_bounds(table), write_pattern(pattern), write_script(script)
        self.assertEqual([table, pattern, script], [[(0, [None, 1])], ["a", ("repeat", ["b"])], [("a", "b")]])

    def test_the_same_formats_are_written_alike(self):
        random = Random(139)
        for _ in range(20):
            made = drawn_format(random, "ab", 3)
            self.assertEqual(write_format(read_format(write_format(made) + "")), write_format(made | made))
        self.assertEqual(write_prices(read_prices(write_prices(ONE))), write_prices(ONE))
        self.assertEqual(write_format(PAIRS.followed_by(PAIRS)), write_format(PAIRS))
