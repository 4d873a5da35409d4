"""Tests of the section "The interface" and of [6]: names, parameters, and where they are defined."""

import importlib
import inspect
import unittest

FUNCTIONS = {
    "basics": {
        "is_integer": "(value)", "is_letter": "(value)", "is_text": "(value)", "is_name": "(value)",
        "parse_count": "(text, *, minimum=0, maximum=None)", "split_words": "(line)",
    },
    "expressions": {
        "parse_expression": "(text)", "expression_text": "(tree)", "is_tree": "(value)", "letters_of": "(tree)",
        "names_of": "(tree)", "with_names": "(tree, table)",
    },
    "listing": {
        "shortest_text": "(text_format)", "missing_text": "(one, other)", "count_texts": "(text_format, length)",
        "texts": "(text_format, longest)", "first_texts": "(text_format, count)", "text_at": "(text_format, number)",
        "number_of": "(text_format, text)",
    },
    "prices": {
        "is_script": "(prices, value)", "script_source": "(prices, script)", "script_target": "(prices, script)",
        "script_cost": "(prices, script)", "apply_edits": "(prices, text, edits)", "edits_of": "(prices, script)",
    },
    "repair": {
        "cheapest_script": "(prices, source, target)", "remaining_costs": "(prices, source, target)",
        "is_remaining": "(prices, source, target, value)", "repair": "(prices, text, text_format)",
        "remaining_repairs": "(prices, text, text_format)",
        "is_remaining_repair": "(prices, text, text_format, value)", "closest": "(prices, one, other)",
    },
    "matrices": {
        "text_matrix": "(prices, text_format, text)", "letter_matrix": "(prices, text_format, letter)",
        "insertion_matrix": "(prices, text_format)", "multiply_costs": "(one, other)", "shape_of": "(matrix)",
        "multiply_shapes": "(one, other)", "is_stable": "(shape)", "grow": "(shape)",
    },
    "patterns": {
        "is_pattern": "(value)", "pattern_length": "(pattern, times)", "pattern_text": "(pattern, times)",
        "pattern_end": "(text_format, pattern, *, start=0)", "pattern_shape": "(prices, text_format, pattern)",
    },
    "bounds": {
        "first_table_error": "(comparison, cost, table)", "expensive": "(comparison, cost)",
        "cost_counts": "(comparison, length)", "costliest_text": "(comparison, length)",
        "greatest_cost": "(comparison, longest)",
    },
    "formattexts": {
        "write_format": "(text_format)", "read_format": "(text)", "write_prices": "(prices)", "read_prices": "(text)",
        "write_script": "(script)", "read_script": "(text)", "write_pattern": "(pattern)", "read_pattern": "(text)",
        "write_bounds": "(table)", "read_bounds": "(text)",
    },
    "onepass": {
        "first_strategy_error": "(game, cost, strategy)", "first_plan_error": "(game, cost, plan)",
        "force": "(game, cost, plan, answer)",
    },
}
METHODS = {
    "__init__": "(self, rows, accepting)", "rows": "(self)", "accepting": "(self)", "letters": "(self)",
    "is_empty": "(self)", "is_finite": "(self)", "next_state": "(self, state, letter)", "contains": "(self, text)",
    "state_after": "(self, text, *, start=0)", "union": "(self, other)", "intersection": "(self, other)",
    "difference": "(self, other)", "is_within": "(self, other)", "followed_by": "(self, other)",
    "repeated": "(self)", "__contains__": "(self, text)", "__eq__": "(self, other)", "__or__": "(self, other)",
    "__and__": "(self, other)", "__sub__": "(self, other)",
}
PRICES_METHODS = {
    "__init__": "(self, alphabet, table, *, default=None)", "alphabet": "(self)", "price": "(self, source, target)",
    "cost": "(self, source, target)", "chain": "(self, source, target)", "__eq__": "(self, other)",
}
COMPARISON_METHODS = {
    "__init__": "(self, prices, first, second)", "prices": "(self)", "first": "(self)", "second": "(self)",
    "__eq__": "(self, other)", "members": "(self)", "pattern_of": "(self, member)", "decision": "(self)",
    "is_impossible": "(self, value)", "is_unbounded": "(self, value)",
}
ONE_PASS_METHODS = {
    "__init__": "(self, comparison)", "comparison": "(self)", "end_costs": "(self)", "__eq__": "(self, other)",
    "strategy": "(self, number)", "plan": "(self, number)", "decision": "(self)",
}
REPAIRER_METHODS = {
    "__init__": "(self, game, cost, strategy)", "__call__": "(self, letter)", "finish": "(self)", "text": "(self)",
    "written": "(self)", "script": "(self)", "position": "(self)", "copied": "(self)", "into": "(self, other)",
}
RELAY_METHODS = {
    "__call__": "(self, letter)", "finish": "(self)", "text": "(self)", "written": "(self)", "copied": "(self)",
    "into": "(self, other)",
}
CATALOG_METHODS = {
    "__init__": "(self, prices)", "prices": "(self)", "put": "(self, name, text)", "remove": "(self, name)",
    "rename": "(self, name, other)", "names": "(self)", "expression": "(self, name)", "format_of": "(self, name)",
    "uses": "(self, name)", "users": "(self, name)", "decision": "(self, old, new)", "one_pass": "(self, old, new)",
    "cost": "(self, old, new)", "path_cost": "(self, names)", "undo": "(self)", "open_draft": "(self)", "keep": "(self)",
    "drop": "(self)", "draft": "(self)", "in_draft": "(self, work)", "__len__": "(self)", "__contains__": "(self, value)",
    "__eq__": "(self, other)",
}
SESSION_METHODS = {
    "__init__": "(self, prices)", "execute": "(self, line)", "execute_all": "(self, lines)", "catalog": "(self)",
    "__eq__": "(self, other)",
}
CLASS_METHODS = {"of_tree": "(cls, tree)", "parse": "(cls, text)"}


class Interface(unittest.TestCase):

    def test_functions(self):
        for file, functions in FUNCTIONS.items():
            module = importlib.import_module(f"formatrepair.{file}")
            for name, signature in functions.items():
                function = getattr(module, name)
                self.assertEqual(str(inspect.signature(function)), signature)
                self.assertEqual(function.__module__, module.__name__)

    def test_texts_is_a_generator(self):
        module = importlib.import_module("formatrepair.listing")
        self.assertTrue(inspect.isgeneratorfunction(module.texts))

    def assert_property(self, own, name):
        """What stands in a class has a property that cannot be assigned."""
        self.assertIsInstance(own[name], property)
        self.assertIsNone(own[name].fset)

    def own_parts(self, file, name, methods):
        """Return what stands in a class itself, after a look at its methods."""
        module = importlib.import_module(f"formatrepair.{file}")
        self.assertEqual(getattr(module, name).__module__, module.__name__)
        own = vars(getattr(module, name))
        for method, signature in methods.items():
            self.assertEqual(str(inspect.signature(own[method])), signature)
        return own

    def test_prices(self):
        own = self.own_parts("prices", "Prices", PRICES_METHODS)
        self.assert_property(own, "highest")

    def test_comparisons(self):
        self.own_parts("comparisons", "Comparison", COMPARISON_METHODS)

    def test_one_pass(self):
        own = self.own_parts("onepass", "OnePass", ONE_PASS_METHODS)
        self.assert_property(own, "least_cost")

    def test_repairers(self):
        for name, methods in (("Repairer", REPAIRER_METHODS), ("Relay", RELAY_METHODS)):
            own = self.own_parts("repairers", name, methods)
            self.assert_property(own, "spent")
            self.assert_property(own, "left")

    def test_catalogs(self):
        own = self.own_parts("catalogs", "Catalog", CATALOG_METHODS)
        self.assert_property(own, "made")

    def test_sessions(self):
        self.own_parts("session", "Session", SESSION_METHODS)

    def test_formats(self):
        own = self.own_parts("formats", "Format", METHODS)
        for name, signature in CLASS_METHODS.items():
            self.assertIsInstance(own[name], classmethod)
            self.assertEqual(str(inspect.signature(own[name].__func__)), signature)
        self.assert_property(own, "size")
