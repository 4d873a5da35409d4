"""Tests of the section "The interface" and of [6]: names, parameters, and where they are defined."""

import importlib
import inspect
import unittest

FUNCTIONS = {
    "basics": {
        "is_integer": "(value)", "is_letter": "(value)", "is_text": "(value)", "is_name": "(value)",
        "parse_count": "(text, *, minimum=0, maximum=None)", "split_words": "(line)",
    },
    "expressions": {
        "parse_expression": "(text)", "expression_text": "(tree)", "is_tree": "(value)", "letters_of": "(tree)",
        "names_of": "(tree)", "with_names": "(tree, table)",
    },
}
METHODS = {
    "__init__": "(self, rows, accepting)", "rows": "(self)", "accepting": "(self)", "letters": "(self)",
    "is_empty": "(self)", "is_finite": "(self)", "next_state": "(self, state, letter)", "contains": "(self, text)",
    "state_after": "(self, text, *, start=0)", "union": "(self, other)", "intersection": "(self, other)",
    "difference": "(self, other)", "is_within": "(self, other)", "followed_by": "(self, other)",
    "repeated": "(self)", "__contains__": "(self, text)", "__eq__": "(self, other)", "__or__": "(self, other)",
    "__and__": "(self, other)", "__sub__": "(self, other)",
}
CLASS_METHODS = {"of_tree": "(cls, tree)", "parse": "(cls, text)"}


class Interface(unittest.TestCase):

    def test_functions(self):
        for file, functions in FUNCTIONS.items():
            module = importlib.import_module(f"formatrepair.{file}")
            for name, signature in functions.items():
                function = getattr(module, name)
                self.assertEqual(str(inspect.signature(function)), signature)
                self.assertEqual(function.__module__, module.__name__)

    def test_methods_stand_in_the_class_itself(self):
        module = importlib.import_module("formatrepair.formats")
        self.assertEqual(module.Format.__module__, module.__name__)
        own = vars(module.Format)
        for name, signature in METHODS.items():
            self.assertEqual(str(inspect.signature(own[name])), signature)
        for name, signature in CLASS_METHODS.items():
            self.assertIsInstance(own[name], classmethod)
            self.assertEqual(str(inspect.signature(own[name].__func__)), signature)
        self.assertIsInstance(own["size"], property)
        self.assertIsNone(own["size"].fset)
