"""What several test files use: values of every kind, and a test case that looks into exceptions."""

import unittest

from formatrepair.errors import FormatError, InvalidText, NoScript, UnknownLetter
from formatrepair.formats import Format
from formatrepair.prices import Prices


class Case(unittest.TestCase):
    """A test case that also compares what an exception tells."""

    def assert_raises(self, error, told, call, *values, **named):
        """The call raises the error, whose only field holds the very object told."""
        with self.assertRaises(error) as caught:
            call(*values, **named)
        self.assertIs(type(caught.exception), error)
        fields = list(vars(caught.exception).values())
        self.assertEqual(len(fields), 1)
        self.assertIs(fields[0], told)

    def assert_unknown(self, letter, call, *values, **named):
        """The call raises UnknownLetter with the letter of a text or of a format."""
        with self.assertRaises(UnknownLetter) as caught:
            call(*values, **named)
        self.assertEqual(caught.exception.letter, letter)

    def assert_found(self, error, told, call, values):
        """The call raises the error; a letter that it tells need not be the very object."""
        if error is UnknownLetter:
            self.assert_unknown(told, call, *values)
        else:
            self.assert_raises(error, told, call, *values)

    def assert_faults(self, call, good, faults):
        """Each fault is raised where it is alone, and also where any later one is there, too.

        A fault is a tuple of the place of an argument, a wrong value for it, the error and what it tells.
        The faults are listed in the order in which the call finds them.
        """
        for number, (place, wrong, error, told) in enumerate(faults):
            values = list(good)
            values[place] = wrong
            self.assert_found(error, told, call, values)
            for later, other, _, _ in faults[number + 1:]:
                if later != place:
                    both = list(values)
                    both[later] = other
                    self.assert_found(error, told, call, both)

    def assert_fault(self, index, call, *values, **named):
        """The call raises the error with the number told, which is an integer."""
        with self.assertRaises(FormatError) as caught:
            call(*values, **named)
        self.assertEqual(type(caught.exception).__name__, "InvalidExpression")
        self.assertEqual(caught.exception.index, index)
        self.assertIs(type(caught.exception.index), int)


def wrapped(value, levels, wrap):
    """Return a value wrapped so many times."""
    for _ in range(levels):
        value = wrap(value)
    return value


def other_values():
    """Return new values of every kind of [5], none of which is a tree, a text or a small integer."""
    return [
        None, True, False, -1, 10 ** 30 - 1, -(10 ** 30 - 1), "A", "a b", "a\n", "~", "1", "a1",
        [], (), {}, [None], ["a"], ("a",), {"a": "a"}, {1: 2}, {("a", "b"): [1]}, [[]], [{}], ((),),
        ["letter", "a"], ["empty"], [("letter", "a")], (("letter", "a"),), {"letter": "a"},
        list(range(110)), tuple(range(110)), {number: number for number in range(110)},
        wrapped(0, 8, lambda value: [value]), wrapped("a", 8, lambda value: (value,)),
        wrapped("a", 8, lambda value: {"a": value}),
        Format([{"a": 0}], [0]), Prices("ab", {("a", "b"): 1}), InvalidText("a"), NoScript(),
    ]


def lists_in(value):
    """Return the lists in a value, each as often as it stands in it."""
    if isinstance(value, list):
        return [value] + [inner for part in value for inner in lists_in(part)]
    if isinstance(value, tuple):
        return [inner for part in value for inner in lists_in(part)]
    if isinstance(value, dict):
        return [inner for part in value.values() for inner in lists_in(part)]
    return []


def with_tuples(value):
    """Return the value with tuples in the place of its lists."""
    if isinstance(value, (list, tuple)):
        return tuple(with_tuples(part) for part in value)
    return value


def not_formats():
    return [value for value in other_values() if not isinstance(value, Format)] + ["ab", 0, Format]


def not_integers():
    """Return values that are no integers."""
    return [value for value in other_values() if type(value) is not int] + ["0", [0], (0,)]
