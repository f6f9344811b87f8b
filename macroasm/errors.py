"""The exceptions of the package, in their families.

The families share no base of their own: whoever catches one kind of trouble does not catch another.
"""


class TextError(ValueError):
    """Something that is given has not the form that it should have."""


class BadLine(TextError):
    """What is no line, or a column at which a line cannot go on."""

    def __init__(self, column):
        self.column = column


class BadName(TextError):
    """What is no name, or not one that may stand there."""

    def __init__(self, given):
        self.given = given


class BadOperands(TextError):
    """An operand that lacks, is too many or has not its form."""

    def __init__(self, index):
        self.index = index


class BadBlock(TextError):
    """A line at which blocks do not fit."""

    def __init__(self, line):
        self.line = line


class BadCall(TextError):
    """A word that has become a directive, or what is no library."""

    def __init__(self, given):
        self.given = given


class BadText(TextError):
    """A word of a text that cannot be read."""

    def __init__(self, row, word):
        self.row = row
        self.word = word


class BadTable(TextError):
    """A row of a table, or one of its forms, that cannot stand there."""

    def __init__(self, row, form):
        self.row = row
        self.form = form


class BadNumber(TextError):
    """What is no number, or not one that may stand there."""

    def __init__(self, given):
        self.given = given


class BadObject(TextError):
    """What is no object, or not one that may stand there."""

    def __init__(self, given):
        self.given = given


class BadTree(TextError):
    """What is no tree, or not one that may stand there."""

    def __init__(self, given):
        self.given = given


class ValueTrouble(ArithmeticError):
    """An expression that has no value."""


class NotPlain(ValueTrouble):
    """A name that stands where none may stand."""

    def __init__(self, path):
        self.path = path


class DividedByZero(ValueTrouble):
    """A division by zero."""


class BadShift(ValueTrouble):
    """A shift by a number that is not from 0 to 64."""

    def __init__(self, given):
        self.given = given


class LookupTrouble(LookupError):
    """Something that is looked for and not there."""


class NoName(LookupTrouble):
    """A name that stands for nothing."""

    def __init__(self, path):
        self.path = path


class NoInstruction(LookupTrouble):
    """What is no instruction of the table."""

    def __init__(self, given):
        self.given = given


class NoOrigin(LookupTrouble):
    """An address at which no cell is."""

    def __init__(self, address):
        self.address = address


class StateTrouble(RuntimeError):
    """Something that cannot be done as things stand."""


class Ring(StateTrouble):
    """Macros that call one another without an end."""

    def __init__(self, names):
        self.names = names


class Cycle(StateTrouble):
    """Equations that use one another."""

    def __init__(self, names):
        self.names = names


class Taken(StateTrouble):
    """A name that is given already."""

    def __init__(self, path):
        self.path = path


class Unresolved(StateTrouble):
    """Imports that nothing exports."""

    def __init__(self, names):
        self.names = names


class OutOfRange(StateTrouble):
    """A fragment whose value does not fit."""

    def __init__(self, section, index):
        self.section = section
        self.index = index


class NothingLeft(StateTrouble):
    """A scope that is closed though none is open."""


class LimitTrouble(OverflowError):
    """Something that is beyond a limit."""


class TooLarge(LimitTrouble):
    """More than a limit allows."""

    def __init__(self, limit):
        self.limit = limit


class Trouble(Exception):
    """An error that a line of a program causes: the origin of the line, and the exception."""

    def __init__(self, origin, cause):
        self.origin = origin
        self.cause = cause
