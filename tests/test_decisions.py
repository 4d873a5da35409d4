"""Tests of how comparisons are decided: whichever search ends first, the answer is right."""

from unittest import mock

from formatrepair.comparisons import Comparison
from formatrepair.costrows import ended_search
from formatrepair.decisions import repeating_pattern, stable_part
from formatrepair.formats import Format
from formatrepair.matrices import is_stable
from formatrepair.patterns import pattern_shape
from formatrepair.prices import Prices

from drawn import drawn_cases
from test_comparisons import ONE, PAIRS, Decided


class Searches(Decided):

    def test_with_few_members_at_a_time(self):
        seen = []
        for case in drawn_cases(935, 80) + drawn_cases(936, 30, "abc", ((2, 5), (2, 4))):
            decision = Comparison(*case).decision()
            with mock.patch("formatrepair.decisions.FIRST_EFFORT", 1):
                self.assertEqual(self.assert_decision(*case, longest=3), decision[0])
                if decision[0] != "unbounded":
                    self.assertEqual(Comparison(*case).decision(), decision)
            seen.append(decision[0])
        self.assertGreater(seen.count("unbounded"), 20)

    def test_parts_that_are_repeated(self):
        found = 0
        for case in drawn_cases(937, 80, sizes=((1, 4), (1, 4))):
            comparison = Comparison(*case)
            if comparison.decision()[0] != "impossible":
                for cutoff in (0, 3, 12):
                    text = ended_search(comparison.reader(cutoff)).found()
                    pattern = None if text is None else repeating_pattern(comparison, text)
                    if pattern is not None:
                        self.assert_pattern(comparison, ("unbounded", pattern))
                        self.assertEqual([len(item) for item in pattern if isinstance(item, tuple)], [2])
                        found += 1
        self.assertGreater(found, 40)

    def test_no_part_is_repeated(self):
        bounded = Comparison(ONE, PAIRS, Format.parse("(ba)*"))
        for text in ("", "ab", "abababab"):
            self.assertIsNone(repeating_pattern(bounded, text))
        # Each letter a costs something, but no part leads to the same state again.
        finite = Comparison(ONE, Format.parse("aaaa"), Format.parse(""))
        self.assertIsNone(repeating_pattern(finite, "aaaa"))
        # The repeated a is repaired for nothing.
        free = Comparison(Prices("ab", {("a", ""): 0}), Format.parse("a*"), Format.parse(""))
        self.assertIsNone(repeating_pattern(free, "aaaa"))

    def test_the_shortest_part_is_taken(self):
        comparison = Comparison(ONE, Format.parse("(ab)*(aab)*"), Format.parse(""))
        self.assertEqual(repeating_pattern(comparison, "aabaabaab"), ["a", "a", ("repeat", ["b", "a", "a"]), "b", "a", "a", "b"])
        self.assertEqual(repeating_pattern(Comparison(ONE, Format.parse("(a|b)*"), Format.parse("")), "abab"), [("repeat", ["a"]), "b", "a", "b"])

    def test_stable_parts(self):
        for case in drawn_cases(938, 40, sizes=((1, 3), (1, 4))):
            comparison = Comparison(*case)
            letters = case[1].letters()
            for text in [letters[0], letters[-1] * 2, letters[0] + letters[-1]] if letters else []:
                part = stable_part(comparison, text)
                shapes = [pattern_shape(case[0], case[2], list(text * times)) for times in range(1, len(part) // len(text) + 1)]
                self.assertEqual(part, text * len(shapes))
                self.assertEqual([is_stable(shape) for shape in shapes], [False] * (len(shapes) - 1) + [True])
