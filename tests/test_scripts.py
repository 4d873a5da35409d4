"""Tests of [52] to [54]: scripts, single edits, and what each of them costs."""

import copy
from itertools import product
from random import Random

from formatrepair.errors import InvalidList, InvalidPrices, InvalidScript, InvalidText, NoScript, NotPossible
from formatrepair.errors import UnknownLetter
from formatrepair.formats import Format
from formatrepair.prices import Prices, apply_edits, edits_of, is_script, script_cost, script_source, script_target
from formatrepair.repair import cheapest_script

from oracle import edit_costs, texts_up_to
from support import Case, other_values
from test_prices import example, made_at_random

PAIRS = [pair for pair in product(["", "a", "b"], repeat=2) if pair != ("", "")]
ASKED = [script_source, script_target, script_cost, edits_of]
PRICES = example()


def not_prices():
    return [value for value in other_values() if not isinstance(value, Prices)] + ["ab", {}, Prices]


def not_scripts():
    """Return values that are no scripts over a and b, most of them by one fault."""
    wrong = [value for value in other_values() if value not in ([], ())]
    wrong += [[pair] for pair in (("", ""), ("a",), ("a", "b", "a"), (), ("c", "a"), ("a", "c"), ("ab", "b"), ("a", "ba"),
                                  ["a", "b"], "ab", "a", None, 0, ("a", None), (None, "a"), ("a", 1), (True, "b"),
                                  ("A", "a"), ("a", ["b"]), (("a",), "b"), {"a": "b"}, Format.parse("a"))]
    wrong += [[("a", "b"), ("b", "")] * 3 + [("", "")], [("", ""), ("a", "b")], ("a", "b"), ("a", ""), "ab",
              {("a", "b"): 1}, [("a", "b"), ["a", "b"], ("a", "b")], ((),), [[("a", "b")]]]
    return wrong


class Scripts(Case):

    def test_example(self):
        script = [("a", ""), ("b", "b"), ("", "b")]
        found = [script_source(PRICES, script), script_target(PRICES, script), script_cost(PRICES, script)]
        self.assertEqual(found, ["ab", "bb", 2])

    def test_is_script(self):
        for size in range(4):
            for script in product(PAIRS, repeat=size):
                self.assertIs(is_script(PRICES, list(script)), True)
                self.assertIs(is_script(PRICES, script), True)
        self.assertIs(is_script(value=[("a", "a")] * 110, prices=PRICES), True)
        self.assertIs(is_script(Prices("a", {}), [("a", "b")]), False)

    def test_values_that_are_no_scripts(self):
        for value in not_scripts():
            self.assertIs(is_script(PRICES, value), False)
            for call in ASKED:
                self.assert_raises(InvalidScript, value, call, PRICES, value)

    def test_wrong_prices(self):
        for value in not_prices():
            for call in [is_script, *ASKED]:
                self.assert_raises(InvalidPrices, value, call, value, [("a", "b")])
                self.assert_raises(InvalidPrices, value, call, value, None)

    def test_source_target_and_cost(self):
        for size in range(4):
            for script in product(PAIRS, repeat=size):
                costs = [PRICES.cost(*pair) for pair in script]
                for value in (script, list(script)):
                    self.assertEqual(script_source(PRICES, value), "".join(pair[0] for pair in script))
                    self.assertEqual(script_target(PRICES, value), "".join(pair[1] for pair in script))
                    self.assertEqual(script_cost(PRICES, value), None if None in costs else sum(costs))

    def test_the_empty_script(self):
        for empty in ([], ()):
            found = [script_source(PRICES, empty), script_target(PRICES, empty), script_cost(PRICES, empty),
                     edits_of(PRICES, empty), is_script(PRICES, empty)]
            self.assertEqual(found, ["", "", 0, [], True])

    def test_pairs_without_a_cost(self):
        prices = Prices("ab", {("a", ""): 4})
        self.assertEqual(script_cost(prices, [("a", ""), ("a", "a")]), 4)
        for script in ([("", "a")], [("a", ""), ("a", "b"), ("b", "b")], [("b", "a")]):
            self.assertIsNone(script_cost(prices, script))

    def test_by_name(self):
        script = [("a", "b")]
        found = [call(script=script, prices=PRICES) for call in ASKED]
        self.assertEqual(found, ["a", "b", 2, [(0, "a", ""), (0, "", "b")]])


class Edits(Case):

    def test_example(self):
        found = [apply_edits(PRICES, "ab", [(0, "a", ""), (1, "", "b")]),
                 apply_edits(PRICES, "a", edits_of(PRICES, [("a", "b")]))]
        self.assertEqual(found, [("bb", 2), ("b", 2)])

    def test_edits_at_every_place(self):
        prices = Prices("ab", {("a", "b"): 1, ("b", "a"): 2, ("a", ""): 3, ("b", ""): 4, ("", "a"): 5, ("", "b"): 6})
        for text in texts_up_to("ab", 4):
            for place in range(len(text) + 2):
                for source, target in [pair for pair in PAIRS if pair[0] != pair[1]]:
                    edits = [(place, source, target)]
                    if place + len(source) <= len(text) and text[place:place + len(source)] == source:
                        after = text[:place] + target + text[place + len(source):]
                        self.assertEqual(apply_edits(prices, text, edits), (after, prices.price(source, target)))
                    else:
                        self.assert_not_possible(0, prices, text, edits)

    def assert_not_possible(self, number, prices, text, edits):
        with self.assertRaises(NotPossible) as caught:
            apply_edits(prices, text, edits)
        self.assertEqual(caught.exception.number, number)
        self.assertIs(type(caught.exception.number), int)

    def test_places_beyond_the_text(self):
        one = Prices("ab", {}, default=1)
        self.assertEqual(apply_edits(one, "ab", [(2, "", "a")]), ("aba", 1))
        self.assertEqual(apply_edits(one, "ab", [(0, "", "b"), (2, "b", "a")]), ("baa", 2))
        self.assertEqual(apply_edits(one, "", [(0, "", "b")]), ("b", 1))
        for text, edit in (("ab", (3, "", "a")), ("ab", (2, "b", "a")), ("ab", (0, "b", "a")), ("", (0, "a", "")),
                           ("", (1, "", "a")), ("ab", (10 ** 30 - 1, "", "a")), ("ab", (10 ** 30 - 1, "a", "b"))):
            self.assert_not_possible(0, one, text, [edit])

    def test_the_first_edit_that_is_not_possible(self):
        self.assert_not_possible(1, PRICES, "ab", [(0, "a", ""), (0, "a", ""), (9, "b", "a")])
        self.assert_not_possible(2, PRICES, "aa", [(0, "a", ""), (0, "a", ""), (0, "a", "")])
        self.assert_not_possible(1, PRICES, "ab", [(1, "b", "a"), (0, "a", "b"), (7, "a", "")])
        self.assert_not_possible(0, PRICES, "b", [(0, "b", "")])
        self.assert_not_possible(199, PRICES, "", [(0, "", "b")] * 199 + [(0, "", "a")])

    def test_edits_one_after_another(self):
        edits = [(0, "", "b"), (1, "", "b"), (1, "b", "a"), (2, "a", "")]
        self.assertEqual(apply_edits(PRICES, "a", edits), ("ba", 8))
        self.assertEqual(apply_edits(PRICES, "a", tuple(edits)), ("ba", 8))
        self.assertEqual(apply_edits(edits=[], text="ba", prices=PRICES), ("ba", 0))

    def test_two_hundred_edits(self):
        edits = [(0, "", "b")] * 200
        self.assertEqual(apply_edits(PRICES, "a", edits), ("b" * 200 + "a", 200))
        more = edits + [(0, "", "b")]
        self.assert_raises(InvalidList, more, apply_edits, PRICES, "a", more)
        self.assertEqual(apply_edits(PRICES, "a" * 400, edits)[0], "b" * 200 + "a" * 400)

    def test_values_that_are_no_lists_of_edits(self):
        wrong = [value for value in other_values() if value not in ([], ())]
        wrong += [[edit] for edit in ((0, "a"), (0, "a", "b", "a"), (), ("a", "b"), [0, "a", "b"], (-1, "a", "b"),
                                      (True, "a", "b"), (False, "a", ""), ("0", "a", "b"), (None, "a", "b"),
                                      (0, "a", "a"), (0, "", ""), (0, "c", "b"), (0, "b", "c"), (0, "ab", ""),
                                      (0, "", "ab"), (0, None, "a"), (0, "a", None), (0, ["a"], "b"), (0, 1, "a"),
                                      ("a", 0, "b"), (0, ("a", "b")), "ab", 0, None)]
        wrong += [(0, "a", "b"), "ab", {(0, "a", "b"): 1}, [(0, "a", "b"), (0, "b", "b")], [[(0, "a", "b")]]]
        for value in wrong:
            self.assert_raises(InvalidList, value, apply_edits, PRICES, "ab", value)

    def test_order_of_the_exceptions(self):
        edits = [(0, "a", "a")]
        faults = [(0, value, InvalidPrices, value) for value in not_prices()]
        faults += [(1, value, InvalidText, value) for value in (None, "a1", ["a"], 7)]
        faults += [(1, "abza", UnknownLetter, "z"), (1, "c", UnknownLetter, "c"), (2, edits, InvalidList, edits)]
        self.assert_faults(apply_edits, [PRICES, "ab", []], faults)
        self.assert_not_possible(0, PRICES, "ab", [(5, "a", "b")])

    def test_arguments_stay(self):
        edits, script = [(0, "a", ""), (0, "b", "a")], [("a", "b"), ("", "a")]
        before = copy.deepcopy((edits, script))
        apply_edits(PRICES, "ab", edits)
        for call in [is_script, *ASKED]:
            call(PRICES, script)
        self.assertEqual((edits, script), before)
        edits_of(PRICES, script).clear()
        self.assertEqual(edits_of(PRICES, script)[0], (0, "a", ""))


class EditsOfScripts(Case):

    def assert_edits(self, prices, script):
        """The edits of a script lead from its source to its target, for its cost."""
        edits = edits_of(prices, script)
        self.assertIs(type(edits), list)
        cost = script_cost(prices, script)
        self.assertEqual(sum(prices.price(source, target) for _, source, target in edits), cost)
        text, total = script_source(prices, script), 0
        for start in range(0, len(edits), 200):
            text, more = apply_edits(prices, text, edits[start:start + 200])
            total += more
        self.assertEqual((text, total), (script_target(prices, script), cost))

    def test_all_short_scripts(self):
        for size in range(4):
            for script in product(PAIRS, repeat=size):
                self.assert_edits(PRICES, list(script))

    def test_many_prices(self):
        random = Random(53)
        for _ in range(150):
            prices = made_at_random(random, "abcd")
            pairs = [pair for pair in product(["", *"abcd"], repeat=2)
                     if pair != ("", "") and prices.cost(*pair) is not None]
            self.assert_edits(prices, [random.choice(pairs) for _ in range(random.randrange(12))])

    def test_long_scripts(self):
        prices = Prices("abcdef", {(x, y): 9 for x, y in zip(["", *"abcde"], "abcdef")})
        script = [("", "f")] * 110
        self.assertEqual(len(edits_of(prices, script)), 660)
        self.assert_edits(prices, script)
        self.assertEqual(script_cost(prices, script), 54 * 110)

    def test_scripts_without_a_cost(self):
        for script in ([("a", "b"), ("b", "a")], [("b", "b"), ("", "b")], (("b", ""),)):
            with self.assertRaises(NoScript):
                edits_of(Prices("ab", {("a", "b"): 1}), script)

    def test_order_of_the_exceptions(self):
        script = [("a", "c")]
        faults = [(0, value, InvalidPrices, value) for value in not_prices()] + [(1, script, InvalidScript, script)]
        for call in ASKED:
            self.assert_faults(call, [PRICES, []], faults)


class Guarantees(Case):

    def test_no_list_of_single_edits_is_cheaper_than_the_cheapest_script(self):
        random = Random(54)
        tables = [PRICES, Prices("ab", {}), Prices("ab", {}, default=0)]
        tables += [made_at_random(random, "ab") for _ in range(25)]
        for prices in tables:
            for source in texts_up_to("ab", 3):
                # Each cheapest script needs room for one letter more at the most while it is applied.
                found = edit_costs(prices, source, 7)
                for target in texts_up_to("ab", 3):
                    best = cheapest_script(prices, source, target)
                    self.assertEqual(found.get(target), None if best is None else best[0])
