"""The exceptions of the package, each under one of three bases."""


class FormatError(ValueError):
    """An argument is invalid."""


class MissingError(KeyError):
    """A name, a letter or a text is unknown."""


class StateError(LookupError):
    """An operation is not possible now."""


class InvalidInteger(FormatError):
    """The value is not an integer within its bounds."""

    def __init__(self, value):
        self.value = value


class InvalidName(FormatError):
    """The value is not a name."""

    def __init__(self, value):
        self.value = value


class InvalidText(FormatError):
    """The value is not a text, or not the string that is asked for."""

    def __init__(self, value):
        self.value = value


class InvalidLetter(FormatError):
    """The value is not a letter."""

    def __init__(self, value):
        self.value = value


class InvalidLine(FormatError):
    """The value is not a line of words."""

    def __init__(self, value):
        self.value = value


class InvalidList(FormatError):
    """The value is not a list, or not a dict, of the form that is asked for."""

    def __init__(self, value):
        self.value = value


class InvalidExpression(FormatError):
    """No expression continues with the character at the index."""

    def __init__(self, index):
        self.index = index


class InvalidTree(FormatError):
    """The value is not the tree of an expression."""

    def __init__(self, value):
        self.value = value


class InvalidTable(FormatError):
    """The value is not a table of the form that is asked for."""

    def __init__(self, value):
        self.value = value


class InvalidFormat(FormatError):
    """The value is not a Format."""

    def __init__(self, value):
        self.value = value


class InvalidAlphabet(FormatError):
    """The value is not a string of one to six different letters."""

    def __init__(self, value):
        self.value = value


class InvalidPrice(FormatError):
    """The value is not a price."""

    def __init__(self, value):
        self.value = value


class InvalidPrices(FormatError):
    """The value is not a Prices object."""

    def __init__(self, value):
        self.value = value


class InvalidSymbol(FormatError):
    """The value is neither a letter of the alphabet nor the empty string."""

    def __init__(self, value):
        self.value = value


class InvalidScript(FormatError):
    """The value is not a script."""

    def __init__(self, value):
        self.value = value


class InvalidMatrix(FormatError):
    """The value is not a matrix of the form that is asked for."""

    def __init__(self, value):
        self.value = value


class NotStable(FormatError):
    """The value is a shape, or the pattern of one, that is not stable."""

    def __init__(self, value):
        self.value = value


class InvalidPattern(FormatError):
    """The value is not a pattern."""

    def __init__(self, value):
        self.value = value


class InvalidMember(FormatError):
    """The value is not a member of the comparison."""

    def __init__(self, value):
        self.value = value


class InvalidComparison(FormatError):
    """The value is not a Comparison."""

    def __init__(self, value):
        self.value = value


class EmptyFormat(FormatError):
    """The format has no text."""


class TooMany(FormatError):
    """There are more than allowed, namely as many as the count."""

    def __init__(self, count):
        self.count = count


class InvalidOnePass(FormatError):
    """The value is not a OnePass object, or not a repairer that fits."""

    def __init__(self, value):
        self.value = value


class InvalidRow(FormatError):
    """The line at the index does not have the form that its place requires."""

    def __init__(self, index):
        self.index = index


class InvalidCommand(FormatError):
    """The line is not a command."""

    def __init__(self, value):
        self.value = value


class DuplicateName(FormatError):
    """The catalog has the name already."""

    def __init__(self, name):
        self.name = name


class Circular(FormatError):
    """The first name of the circle would depend on itself."""

    def __init__(self, circle):
        self.circle = circle


class UnknownName(MissingError):
    """The name stands for no format."""

    def __init__(self, name):
        self.name = name


class UnknownLetter(MissingError):
    """The letter is not in the alphabet."""

    def __init__(self, letter):
        self.letter = letter


class MissingText(MissingError):
    """There is no text of this number or length."""

    def __init__(self, number):
        self.number = number


class NotIncluded(MissingError):
    """The text is not in the format."""

    def __init__(self, value):
        self.value = value


class NotPossible(StateError):
    """The edit of this number is not possible."""

    def __init__(self, number):
        self.number = number


class NoScript(StateError):
    """There is no script whose cost is a number."""


class NotContinuing(StateError):
    """No text of the format goes on with the letter."""

    def __init__(self, letter):
        self.letter = letter


class Finished(StateError):
    """The repair has ended."""


class StillUsed(StateError):
    """The expression of this name still uses the name."""

    def __init__(self, name):
        self.name = name


class DraftOpen(StateError):
    """A draft of the catalog is open."""


class NotOpen(StateError):
    """There is no open draft or repair."""


class NothingToUndo(StateError):
    """No change is kept that could be undone."""
