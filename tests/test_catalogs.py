"""Tests of [121] to [123]: catalogs, their names and expressions, and the decisions made for them."""

import copy
from random import Random

from formatrepair.catalogs import Catalog
from formatrepair.comparisons import Comparison
from formatrepair.errors import Circular, DuplicateName, EmptyFormat, InvalidExpression, InvalidList, InvalidName
from formatrepair.errors import InvalidPrices, InvalidText, InvalidTree, StillUsed, TooMany, UnknownLetter, UnknownName
from formatrepair.expressions import expression_text, parse_expression
from formatrepair.formats import Format
from formatrepair.onepass import OnePass
from formatrepair.prices import Prices

from drawn import drawn_prices
from support import Case, lists_in, other_values
from test_comparisons import ONE, PAIRS
from test_scripts import not_prices

ABC = Prices("abc", {}, default=1)


def catalog_of(*entries, prices=ONE):
    """Return a catalog with pairs of names and expressions, each a string like `old a*`."""
    catalog = Catalog(prices)
    for entry in entries:
        name, _, text = entry.partition(" ")
        catalog.put(name, text)
    return catalog


def shown(catalog):
    """Return the names of a catalog with their expressions."""
    return {name: catalog.expression(name) for name in catalog.names()}


def not_names():
    return other_values() + ["", "abcdefghi", "A", "a1", "<a>", ["a"], ("a",), {"a": 1}]


class Checked(Case):

    def assert_told(self, error, told, call, *values):
        """The call raises the error with an equal value in its only field."""
        with self.assertRaises(error) as caught:
            call(*values)
        self.assertIs(type(caught.exception), error)
        self.assertEqual(list(vars(caught.exception).values()), [told])

    def assert_refused(self, catalog, error, told, call, *values):
        """The call raises the error, and the catalog stays as it was."""
        before = shown(catalog), catalog.made
        self.assert_told(error, told, call, *values)
        self.assertEqual((shown(catalog), catalog.made), before)


class Put(Checked):

    def test_example(self):
        catalog = Catalog(ONE)
        catalog.put("pair", "ab")
        catalog.put("old", "<pair>*")
        self.assertEqual([catalog.names(), catalog.format_of("old") == PAIRS, catalog.users("pair")], [["old", "pair"], True, ["old"]])
        self.assert_refused(catalog, Circular, ["pair", "old"], catalog.put, "pair", "<old>")
        found = [catalog.cost("pair", "old"), catalog.decision("old", "pair")[0], catalog.made, catalog.path_cost(["pair", "old", "old"])]
        self.assertEqual(found, [0, "unbounded", 2, 0])

    def test_prices(self):
        self.assertIs(Catalog(prices=ONE).prices(), ONE)
        for value in not_prices():
            self.assert_raises(InvalidPrices, value, Catalog, value)

    def test_another_expression(self):
        catalog = catalog_of("old a*", "new <old>b")
        self.assertEqual([catalog.put("old", "b|"), catalog.put(text="<old><old>", name="new")], [None, None])
        self.assertEqual(shown(catalog), {"new": "<old><old>", "old": "b|"})
        self.assertEqual(catalog.format_of("new"), Format.parse("|b|bb"))
        catalog.put("empty", "")
        self.assertEqual([catalog.expression("empty"), catalog.format_of("empty"), catalog.uses("empty")], ["", Format.parse(""), []])

    def test_expressions_stay_as_they_were_put(self):
        for text in ("((a))", "(a|)(b)", "a|0", "()", "<x>()", "((<x>)*)*"):
            catalog = catalog_of("x b", "y " + text)
            self.assertEqual(catalog.expression("y"), text)

    def test_each_exception_alone(self):
        catalog = catalog_of("x a", "y <x>b")
        for value in not_names():
            self.assert_raises(InvalidName, value, catalog.put, value, "a")
        for value in [value for value in other_values() if not isinstance(value, str)]:
            self.assert_raises(InvalidText, value, catalog.put, "z", value)
        for text, index in (("a**", 2), ("(a", 2), ("<x", 2), ("A", 0), ("a b", 1), ("-", 0), ("<>", 1), ("<abcdefghi>", 9)):
            self.assert_refused(catalog, InvalidExpression, index, catalog.put, "z", text)
        for text, letter in (("c", "c"), ("a(b|z)c", "z"), ("<x>(q|c)", "q")):
            self.assert_refused(catalog, UnknownLetter, letter, catalog.put, "z", text)
        for text, name in (("<z>a<q>", "q"), ("<x><p><q>", "p"), ("(<y>|<k>)*", "k")):
            self.assert_refused(catalog, UnknownName, name, catalog.put, "z", text)

    def test_the_order_of_two_exceptions(self):
        catalog = catalog_of("x a", "y <x>b")
        self.assert_refused(catalog, InvalidName, "", catalog.put, "", None)
        self.assert_refused(catalog, InvalidName, None, catalog.put, None, "c<q>(")
        self.assert_refused(catalog, InvalidExpression, 5, catalog.put, "x", "c<q>(")
        self.assert_refused(catalog, UnknownLetter, "c", catalog.put, "x", "<q>c<x>")
        self.assert_refused(catalog, UnknownName, "q", catalog.put, "x", "<x><y><q>")
        self.assert_refused(catalog, Circular, ["x"], catalog.put, "x", "<y><x>" + "a" * 14 + "<x>")
        full = self.full()
        self.assert_refused(full, Circular, ["new"], full.put, "new", "<new>")
        self.assert_refused(full, TooMany, 41, full.put, "new", "a" * 14 + "<aa>" * 14)

    def full(self):
        """Return a catalog of forty names."""
        names = [first + second for first in "abcd" for second in "abcdefghij"]
        return catalog_of(*[f"{name} a" for name in names])

    def test_forty_names(self):
        full = self.full()
        self.assertEqual(len(full), 40)
        self.assert_refused(full, TooMany, 41, full.put, "x", "a")
        full.put("aa", "<ab>b")
        full.remove("aa")
        full.put("x", "b")
        self.assertEqual([len(full), "x" in full, "aa" in full], [40, True, False])
        self.assert_refused(full, TooMany, 41, full.put, "aa", "")

    def test_letters(self):
        catalog = catalog_of("ten " + "a" * 10, "four abab")
        catalog.put("m", "<ten><ten>")
        self.assertEqual(catalog.format_of("m"), Format.parse("a" * 20))
        self.assert_refused(catalog, TooMany, 21, catalog.put, "n", "<ten><ten>b")
        self.assert_refused(catalog, TooMany, 21, catalog.put, "m", "(<ten>|<ten>)*a")
        self.assert_refused(catalog, TooMany, 30, catalog.put, "n", "<ten><m>")
        # The tree of m grows through another name, and m comes before ten.
        catalog.put("n", "<four><four><four>")
        self.assert_refused(catalog, TooMany, 22, catalog.put, "ten", "a" * 11)
        self.assert_refused(catalog, TooMany, 28, catalog.put, "ten", "a" * 14)
        self.assert_refused(catalog, TooMany, 21, catalog.put, "four", "abababa")

    def test_the_first_name_for_which_there_is_too_much(self):
        catalog = catalog_of("x a", "zz <x><x>", "b <zz><zz>", "k <b><b>")
        self.assert_refused(catalog, TooMany, 20 + 4, catalog.put, "x", "aaa")
        self.assert_refused(catalog, TooMany, 24, catalog.put, "x", "aaaaaa")
        self.assert_refused(catalog, TooMany, 28, catalog.put, "x", "aaaaaaa")

    def test_names_that_double(self):
        catalog = catalog_of("a ()", prices=ONE)
        for before, name in zip("abcde", "bcdef"):
            catalog.put(name, f"<{before}><{before}>")
        # Each name has one tree more than twice those of the one before it: 1, 3, 7, 15, 31, 63.
        self.assert_refused(catalog, TooMany, 127, catalog.put, "g", "<f><f>")
        self.assertEqual(catalog.format_of("f"), Format.parse(""))
        deep = Catalog(ONE)
        for name in "abcdefghijklmnopqrstuvwxyz":
            deep.put(name, "")
        names = "abcdefghijklmnopqrstuvwxyz"
        for before, name in zip(names[:5], names[1:6]):
            deep.put(name, f"<{before}><{before}>")
        self.assert_refused(deep, TooMany, 127, deep.put, "z", "<f><f>")

    def test_huge_numbers_are_told(self):
        catalog = Catalog(ONE)
        catalog.put("x", "0")
        for name, text in (("b", "<x>"), ("c", "<b>" * 9), ("d", "<c>" * 9)):
            catalog.put(name, text)
        self.assert_refused(catalog, TooMany, 1 + 10 * 91, catalog.put, "e", "<d>" * 10)
        self.assert_refused(catalog, TooMany, 90 + 40, catalog.put, "e", "a" * 14 + "b" * 116)

    def test_a_hundred_trees(self):
        catalog = catalog_of("nine " + "()" * 9, "more (<nine>|<nine>)*")
        # Nine has 10 trees, and ten of these with the sequence of them make 101.
        self.assert_refused(catalog, TooMany, 101, catalog.put, "x", "<nine>" * 10)
        catalog.put("x", "<nine>" * 9 + "()" * 9)
        self.assertEqual(catalog.format_of("x"), Format.parse(""))
        self.assert_refused(catalog, TooMany, 101, catalog.put, "x", "<nine>" * 9 + "()" * 10)
        # Letters are looked at first: there are 21 of them, and more than a hundred trees.
        self.assert_refused(catalog, TooMany, 21, catalog.put, "x", "<nine>" * 10 + "a" * 21)

    def test_depth(self):
        catalog = catalog_of("ten " + "(" * 9 + "(a|b)*" + ")*" * 9)
        self.assertEqual(expression_text(parse_expression(catalog.expression("ten"))).count("("), 10)
        catalog.put("p", "<ten>")
        catalog.put("q", "(((((((((<p>*)*)*)*)*)*)*)*)*)*")
        self.assertIs("q" in catalog, True)
        with self.assertRaises(InvalidTree) as caught:
            catalog.put("r", "(((((((((((<p>*)*)*)*)*)*)*)*)*)*)*)*")
        tree = ("many", ("choice", [("letter", "a"), ("letter", "b")]))
        for _ in range(9 + 12):
            tree = ("many", tree)
        self.assertEqual(caught.exception.value, tree)
        self.assertEqual(catalog.names(), ["p", "q", "ten"])
        with self.assertRaises(InvalidTree):
            catalog.put("ten", "(" * 19 + "(a|b)*" + ")*" * 19)
        self.assertEqual(catalog.format_of("q"), Format.parse("(a|b)*"))

    def test_nothing_changes_if_a_call_raises(self):
        catalog = catalog_of("x a")
        before = shown(catalog)
        for name, text in (("y", "<z>"), ("x", "<x>"), ("", "a"), ("y", "(")):
            with self.assertRaises(Exception):
                catalog.put(name, text)
        self.assertEqual(shown(catalog), before)
        catalog.undo()
        self.assertEqual(shown(catalog), {})


class Circles(Checked):

    def test_circles(self):
        self.assert_refused(catalog_of("x a"), Circular, ["x"], catalog_of("x a").put, "x", "a<x>")
        self.assert_refused(catalog := Catalog(ONE), Circular, ["x"], catalog.put, "x", "<x>")
        catalog = catalog_of("x a", "y <x>", "z <y><x>")
        for text, circle in (("<y>", ["x", "y"]), ("<z>", ["x", "z"]), ("<z><y>", ["x", "y"]), ("<y><z><x>", ["x"])):
            self.assert_refused(catalog, Circular, circle, catalog.put, "x", text)
        longer = catalog_of("x a", "y <x>", "z <y>", "k <z>")
        self.assert_refused(longer, Circular, ["x", "k", "z", "y"], longer.put, "x", "<k>")
        self.assert_refused(longer, Circular, ["y", "k", "z"], longer.put, "y", "<k>")

    def test_the_first_of_the_shortest_circles(self):
        catalog = catalog_of("x a", "da <x>", "db <x>", "c <db>", "b <db><da>", "a <c>", "e <x><c>")
        for text, circle in (("<c><b>", ["x", "b", "da"]), ("<c>", ["x", "c", "db"]), ("<a>|<b>", ["x", "b", "da"]), ("<a>", ["x", "a", "c", "db"]),
                             ("<a><e>", ["x", "e"]), ("<b><db>", ["x", "db"])):
            self.assert_refused(catalog, Circular, circle, catalog.put, "x", text)

    def test_against_all_ways(self):
        random = Random(121)
        seen = 0
        for _ in range(150):
            names = random.sample(["a", "b", "c", "aa", "ab", "d", "e"], 6)
            catalog = Catalog(ONE)
            uses = {}
            for number, name in enumerate(names):
                uses[name] = [other for other in names[:number] if random.random() < 0.4]
                catalog.put(name, "|".join(f"<{other}>" for other in uses[name]) if uses[name] else "a")
            name = random.choice(names[:3])
            uses[name] = random.sample(names, 2)
            ways = [[name]]
            circle = None
            while ways and circle is None:
                closed = sorted(way for way in ways if name in uses[way[-1]])
                circle = closed[0] if closed else None
                ways = [way + [other] for way in ways for other in uses[way[-1]] if other not in way]
            text = "".join(f"<{other}>" for other in uses[name])
            if circle:
                self.assert_refused(catalog, Circular, circle, catalog.put, name, text)
                seen += 1
            else:
                catalog.put(name, text)
        self.assertGreater(seen, 40)

    def test_a_circle_of_forty_names(self):
        catalog = Catalog(ONE)
        names = sorted(first + second for first in "abcd" for second in "abcdefghij")
        order = Random(40).sample(names, 40)
        catalog.put(order[0], "a")
        for before, name in zip(order, order[1:]):
            catalog.put(name, f"<{before}>")
        self.assert_refused(catalog, Circular, [order[0]] + order[:0:-1], catalog.put, order[0], f"b<{order[-1]}>")
        self.assertEqual(catalog.format_of(order[-1]), Format.parse("a"))


class Names(Checked):

    def test_remove(self):
        catalog = catalog_of("x a", "z <x>", "y <x><x>", "k b")
        self.assert_refused(catalog, StillUsed, "y", catalog.remove, "x")
        self.assertIsNone(catalog.remove(name="y"))
        self.assert_refused(catalog, StillUsed, "z", catalog.remove, "x")
        catalog.remove("z")
        catalog.remove("x")
        self.assertEqual(shown(catalog), {"k": "b"})
        for value in [*not_names(), "x", "q"]:
            self.assert_raises(UnknownName, value, catalog.remove, value)

    def test_rename(self):
        catalog = catalog_of("x a", "y <x>b|<x>", "z (<y>|<x>)*")
        before = catalog.format_of("z")
        self.assertIsNone(catalog.rename(other="new", name="x"))
        self.assertEqual(shown(catalog), {"new": "a", "y": "<new>b|<new>", "z": "(<y>|<new>)*"})
        self.assertEqual([catalog.format_of("z"), "x" in catalog], [before, False])
        catalog.rename("y", "x")
        self.assertEqual(shown(catalog), {"new": "a", "x": "<new>b|<new>", "z": "(<x>|<new>)*"})
        self.assert_refused(catalog, DuplicateName, "z", catalog.rename, "x", "z")
        self.assert_refused(catalog, DuplicateName, "x", catalog.rename, "x", "x")
        for value in not_names():
            self.assert_raises(InvalidName, value, catalog.rename, "x", value)
            self.assert_raises(UnknownName, value, catalog.rename, value, "")
        self.assert_refused(catalog, UnknownName, "q", catalog.rename, "q", "z")

    def test_names_that_begin_with_one_another(self):
        catalog = catalog_of("a a", "ab b", "aba <ab><a>", "b <a>|<ab>|<aba>")
        self.assertEqual([catalog.users("a"), catalog.users("ab"), catalog.users("aba"), catalog.users("b")],
                         [["aba", "b"], ["aba", "b"], ["b"], []])
        catalog.rename("a", "abab")
        self.assertEqual(shown(catalog), {"ab": "b", "aba": "<ab><abab>", "abab": "a", "b": "<abab>|<ab>|<aba>"})
        catalog.rename("ab", "a")
        self.assertEqual(shown(catalog), {"a": "b", "aba": "<a><abab>", "abab": "a", "b": "<abab>|<a>|<aba>"})
        self.assertEqual([catalog.uses("b"), catalog.uses("aba"), catalog.uses("a")], [["a", "aba", "abab"], ["a", "abab"], []])
        letters = catalog_of("a aab", "b <a>a")
        letters.rename("a", "b" * 8)
        self.assertEqual(shown(letters), {"b": "<bbbbbbbb>a", "bbbbbbbb": "aab"})

    def test_what_is_asked(self):
        catalog = catalog_of("x a", "y <x>b", "z <y><x><y>")
        self.assertEqual([catalog.names(), len(catalog), catalog.uses("z"), catalog.users("x"), catalog.expression("y")],
                         [["x", "y", "z"], 3, ["x", "y"], ["y", "z"], "<x>b"])
        self.assertEqual([catalog.uses(name="x"), catalog.users(name="z"), catalog.format_of(name="z")], [[], [], Format.parse("abaab")])
        for call in (catalog.expression, catalog.format_of, catalog.uses, catalog.users):
            for value in [*not_names(), "q", "<x>"]:
                self.assert_raises(UnknownName, value, call, value)

    def test_names_in_a_catalog(self):
        catalog = catalog_of("x a")
        self.assertIs("x" in catalog, True)
        self.assertIs("x" not in catalog, False)
        for value in [*other_values(), "y", "", "<x>", ["x"], ("x",), {"x": 1}, catalog, Format.parse("a")]:
            self.assertIs(value in catalog, False)
        self.assertEqual([len(Catalog(ONE)), Catalog(ONE).names()], [0, []])

    def test_equality(self):
        catalog = catalog_of("x a", "y <x>b")
        other = catalog_of("y b", "x b", "y <x>b", "x a")
        self.assertIs(catalog == other, True)
        self.assertIs(catalog != other, False)
        other.put("y", "(<x>)b")
        self.assertEqual(catalog.format_of("y"), other.format_of("y"))
        self.assertIs(catalog == other, False)
        same = Prices("ba", {("a", "b"): 1}, default=1)
        self.assertIs(catalog == catalog_of("x a", "y <x>b", prices=same), True)
        for value in [*other_values(), catalog_of("x a"), catalog_of("x a", "y <x>b", prices=ABC), Catalog(ONE), shown(catalog)]:
            self.assertIs(catalog == value, False)
        self.assertIs(type(repr(catalog)), str)

    def test_results_are_new(self):
        catalog = catalog_of("x a", "y <x>b")
        for call in (catalog.names, lambda: catalog.uses("y"), lambda: catalog.users("x")):
            before = call()
            copied = list(before)
            before.clear()
            self.assertEqual(call(), copied)


class Decided(Checked):

    def test_as_comparisons_answer(self):
        random = Random(123)
        for _ in range(25):
            prices = drawn_prices(random, "ab")
            texts = [random.choice(["a*", "(ab)*", "(a|b)*", "a?b", "b*a*", "ab|ba", "0", "", "aab*", "<x>b"]) for _ in range(3)]
            catalog = catalog_of("x a*", *[f"{name} {text}" for name, text in zip("pqr", texts)], prices=prices)
            for old in "pqr":
                for new in "pqr":
                    first, second = catalog.format_of(old), catalog.format_of(new)
                    if first.is_empty():
                        for call in (catalog.decision, catalog.one_pass, catalog.cost):
                            self.assertRaises(EmptyFormat, call, old, new)
                        continue
                    comparison = Comparison(prices, first, second)
                    decision = comparison.decision()
                    self.assertEqual(catalog.decision(old, new), decision)
                    self.assertEqual(catalog.cost(old, new), decision[1] if decision[0] == "bounded" else None)
                    if second.is_empty():
                        self.assertRaises(EmptyFormat, catalog.one_pass, old, new)
                    else:
                        self.assertEqual(catalog.one_pass(new=new, old=old), OnePass(comparison).decision())

    def test_each_decision_is_made_once(self):
        catalog = catalog_of("x (ab)*", "y (ba)*", "z ()|ab(ab)*")
        self.assertEqual(catalog.made, 0)
        for many, call in ((1, lambda: catalog.decision("x", "y")), (1, lambda: catalog.cost("x", "y")), (1, lambda: catalog.cost("z", "y")),
                           (2, lambda: catalog.cost("y", "x")), (3, lambda: catalog.one_pass("x", "y")), (3, lambda: catalog.one_pass("z", "y")),
                           (4, lambda: catalog.one_pass("x", "z")), (4, lambda: catalog.one_pass("x", "x")), (5, lambda: catalog.cost("x", "x")),
                           (5, lambda: catalog.path_cost(["x", "z", "x", "y", "x"])), (6, lambda: catalog.path_cost(["y", "y"])),
                           (6, lambda: catalog.path_cost(["x"]))):
            call()
            self.assertEqual(catalog.made, many)

    def test_decisions_are_kept_whatever_is_changed(self):
        catalog = catalog_of("x (ab)*", "y (ba)*")
        catalog.cost("x", "y"), catalog.one_pass("x", "y")
        catalog.put("x", "a")
        catalog.cost("x", "y")
        self.assertEqual(catalog.made, 3)
        catalog.undo()
        catalog.rename("x", "k")
        catalog.remove("k")
        catalog.put("p", "(ab)*")
        catalog.put("q", "a")
        self.assertEqual([catalog.cost("p", "y"), catalog.one_pass("p", "y")[1], catalog.cost("q", "y"), catalog.made], [2, 2, 1, 3])
        catalog.one_pass("q", "y")
        self.assertEqual(catalog.made, 4)
        with self.assertRaises(AttributeError):
            catalog.made = 0

    def test_decisions_before_an_exception(self):
        catalog = catalog_of("x a", "y b", "none 0", "big " + "a" * 12, "wide " + "b" * 6)
        for names, error, told, many in ((["x", "y", "q", "x"], UnknownName, "q", 1), (["y", "x", "none", "x"], EmptyFormat, None, 3),
                                         (["y", "y", "big", "x"], TooMany, 13, 4), (["x", "wide"], TooMany, 7, 4),
                                         (["x", 7], UnknownName, 7, 4), (["q", "p"], UnknownName, "q", 4)):
            with self.assertRaises(error) as caught:
                catalog.path_cost(names)
            self.assertEqual([*vars(caught.exception).values()], [] if told is None else [told])
            self.assertEqual(catalog.made, many)
        self.assertRaises(EmptyFormat, catalog.one_pass, "x", "none")
        self.assertRaises(EmptyFormat, catalog.one_pass, "none", "x")
        self.assertRaises(EmptyFormat, catalog.cost, "none", "x")
        self.assertEqual([catalog.made, catalog.cost("x", "none"), catalog.made], [4, None, 4])

    def test_unknown_names(self):
        catalog = catalog_of("x a")
        for call in (catalog.decision, catalog.one_pass, catalog.cost):
            for value in [*not_names(), "q"]:
                self.assert_raises(UnknownName, value, call, value, "x")
                self.assert_raises(UnknownName, value, call, "x", value)
                self.assert_raises(UnknownName, value, call, value, "p")

    def test_path_cost(self):
        catalog = catalog_of("x (ab)*", "y (ba)*", "z a*", "u ab")
        self.assertEqual([catalog.path_cost(["x", "y", "x", "y"]), catalog.path_cost(names=("x", "y"))], [6, 2])
        self.assertEqual([catalog.path_cost(["x", "z", "x"]), catalog.path_cost(["x", "z", "y", "x", "x"])], [None, None])
        for one in (*other_values(), "q", "x"):
            self.assertEqual(catalog.path_cost([one]), 0)
            self.assertEqual(catalog.path_cost((one,)), 0)
        for value in [value for value in other_values() if not isinstance(value, (list, tuple))] + [[], (), "xy", {"x": "y"}]:
            self.assert_raises(InvalidList, value, catalog.path_cost, value)
        for names in (["x", "y", "x"], ["x", "y", "u"], ["u", "x", "y"], ["u", "z", "x"]):
            whole, parts = catalog.cost(names[0], names[-1]), catalog.path_cost(names)
            if parts is not None:
                self.assertLessEqual(whole, parts)

    def test_all_pairs_are_examined(self):
        catalog = catalog_of("x (ab)*", "y (ba)*", "z a*")
        self.assertIsNone(catalog.path_cost(["x", "z", "y", "x"]))
        self.assertEqual(catalog.made, 3)
        self.assert_told(UnknownName, "q", catalog.path_cost, ["x", "z", "y", "q"])

    def test_a_format_that_is_unknown_to_texts(self):
        catalog = catalog_of("x c", "y a", prices=Prices("abc", {("c", "b"): 1, ("b", "a"): 1}))
        self.assertEqual([catalog.decision("x", "y")[:3], catalog.decision("y", "x")], [("bounded", 2, "c"), ("impossible", "a")])

    def test_results_are_new(self):
        catalog = catalog_of("x (ab)*", "y (ba)*", "z a*")
        for call in (lambda: catalog.decision("x", "y"), lambda: catalog.decision("x", "z"), lambda: catalog.one_pass("x", "y"),
                     lambda: catalog.one_pass("x", "z")):
            found = call()
            before = copy.deepcopy(found)
            for part in lists_in(found):
                part.clear()
            self.assertEqual(call(), before)

    def test_a_catalog_answers_as_a_new_one(self):
        random = Random(124)
        for _ in range(20):
            prices = drawn_prices(random, "ab")
            catalog = Catalog(prices)
            for _ in range(12):
                names = catalog.names()
                try:
                    if names and random.random() < 0.3:
                        random.choice([catalog.remove, lambda name: catalog.rename(name, random.choice("pqrst")), lambda name: catalog.undo()])(
                            random.choice(names))
                    else:
                        used = f"<{random.choice(names)}>" if names and random.random() < 0.5 else "b"
                        catalog.put(random.choice("pqrst"), random.choice(["a*", "ab", "(a|b)*", "a?b+"]) + "|" + used)
                    if names and random.random() < 0.5:
                        catalog.cost(random.choice(names), random.choice(names))
                except Exception:
                    continue
            fresh = Catalog(prices)
            waiting = shown(catalog)
            while waiting:
                for name in [name for name in waiting if all(other in fresh for other in catalog.uses(name))]:
                    fresh.put(name, waiting.pop(name))
            self.assertEqual(catalog, fresh)
            for old in fresh.names():
                for new in fresh.names():
                    if fresh.format_of(old).size <= 12 and fresh.format_of(new).size <= 6:
                        self.assertEqual(catalog.decision(old, new), fresh.decision(old, new))
                        self.assertEqual(catalog.one_pass(old, new), fresh.one_pass(old, new))
