"""Tests of [11]: the exceptions, their bases and their fields."""

import unittest

from formatrepair import errors
from formatrepair.errors import FormatError, MissingError, NotIncluded, StateError, TooMany

from support import other_values

FIELDS = {
    FormatError: {
        "InvalidInteger": "value", "InvalidName": "value", "InvalidText": "value", "InvalidLetter": "value",
        "InvalidLine": "value", "InvalidList": "value", "InvalidExpression": "index", "InvalidTree": "value",
        "InvalidTable": "value", "InvalidFormat": "value", "InvalidAlphabet": "value", "InvalidPrice": "value",
        "InvalidPrices": "value", "InvalidSymbol": "value", "InvalidScript": "value", "InvalidMatrix": "value",
        "NotStable": "value", "InvalidPattern": "value", "InvalidMember": "value", "InvalidComparison": "value",
        "EmptyFormat": None, "TooMany": "count", "InvalidOnePass": "value", "InvalidRow": "index",
        "InvalidCommand": "value", "DuplicateName": "name", "Circular": "circle",
    },
    MissingError: {
        "UnknownName": "name", "UnknownLetter": "letter", "MissingText": "number", "NotIncluded": "value",
    },
    StateError: {
        "NotPossible": "number", "NoScript": None, "NotContinuing": "letter", "Finished": None,
        "StillUsed": "name", "DraftOpen": None, "NotOpen": None, "NothingToUndo": None,
    },
}
KINDS = [(base, getattr(errors, name), field) for base in FIELDS for name, field in FIELDS[base].items()]
BUILTIN_BASES = {FormatError: ValueError, MissingError: KeyError, StateError: LookupError}


class Bases(unittest.TestCase):

    def test_the_three_bases(self):
        for base, builtin in BUILTIN_BASES.items():
            self.assertEqual(base.__bases__, (builtin,))
            self.assertEqual(base("why").args, ("why",))
            self.assertIsInstance(str(base("why")), str)

    def test_each_class_has_its_base_and_no_other_one(self):
        self.assertEqual(len(KINDS), 39)
        for base, kind, _ in KINDS:
            self.assertEqual(kind.__bases__, (base,))
            self.assertEqual(sum(issubclass(kind, other) for other in FIELDS), 1)

    def test_the_classes_are_defined_in_their_file(self):
        for kind in [*FIELDS, *[kind for _, kind, _ in KINDS]]:
            self.assertEqual(kind.__module__, "formatrepair.errors")

    def test_they_can_be_caught_by_what_they_derive_from(self):
        for base, kind, field in KINDS:
            made = kind("a") if field else kind()
            for caught in (kind, base, BUILTIN_BASES[base]):
                with self.assertRaises(caught):
                    raise made


class Fields(unittest.TestCase):

    def test_example(self):
        self.assertEqual([TooMany(17).count, NotIncluded(value="ab").value], [17, "ab"])

    def test_fields_hold_the_very_objects(self):
        for _, kind, field in KINDS:
            if field:
                for value in other_values():
                    self.assertIs(getattr(kind(value), field), value)
                    self.assertIs(getattr(kind(**{field: value}), field), value)

    def test_there_is_one_field(self):
        for _, kind, field in KINDS:
            if field:
                self.assertEqual(vars(kind("a")), {field: "a"})
                for call in (lambda: kind(), lambda: kind("a", "b"), lambda: kind(other="a")):
                    with self.assertRaises(TypeError):
                        call()
            else:
                self.assertEqual(vars(kind()), {})

    def test_an_exception_equals_only_itself(self):
        for _, kind, field in KINDS:
            one, other = (kind("a"), kind("a")) if field else (kind(), kind())
            self.assertEqual(one, one)
            self.assertNotEqual(one, other)
            self.assertNotEqual(one, "a")
        for base in FIELDS:
            self.assertNotEqual(base("a"), base("a"))

    def test_repr_is_a_string(self):
        for _, kind, field in KINDS:
            self.assertIsInstance(repr(kind("a") if field else kind()), str)
