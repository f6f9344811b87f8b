"""Sections and their fragments, which never change."""

from macroasm.arithmetic import is_number
from macroasm.errors import BadName, BadNumber, BadObject, BadOperands
from macroasm.fields import is_cell
from macroasm.linear import Linear
from macroasm.lines import is_name

# The numbers of the cells that patches have.
PATCHES = {"b1": 1, "b2": 2, "b4": 4}
ALIGNMENTS = (1, 2, 4, 8, 16, 32, 64)
MOST_IN_GAP = 65536
MOST_OPERANDS = 4


class Data:
    """Cells, and patches: pairs of a field and a linear form."""

    def __init__(self, *items):
        for index, item in enumerate(items):
            if not is_cell(item) and not _is_patch(item):
                raise BadObject(index)
        self._contents = items

    @classmethod
    def of(cls, items):
        """The data of the items in a tuple."""
        if not isinstance(items, tuple):
            raise BadObject(None)
        return cls(*items)

    @property
    def contents(self):
        """The tuple of the cells and patches."""
        return self._contents

    def __eq__(self, other):
        return isinstance(other, Data) and self._contents == other._contents


class Choice:
    """An instruction that is written in one of its forms."""

    def __init__(self, name, operands=()):
        if not is_name(name):
            raise BadName(name)
        if not isinstance(operands, tuple):
            raise BadOperands(None)
        for index, operand in enumerate(operands):
            if index == MOST_OPERANDS or not isinstance(operand, Linear):
                raise BadOperands(index)
        self._name = name
        self._operands = operands

    @property
    def name(self):
        """The name of the instruction."""
        return self._name

    @property
    def operands(self):
        """The tuple of the operands, linear forms."""
        return self._operands

    def __eq__(self, other):
        return isinstance(other, Choice) and self._name == other._name and self._operands == other._operands


class Alignment:
    """As many cells of a fill as lead to the next multiple of a number."""

    def __init__(self, count, fill=0):
        if not is_number(count) or count not in ALIGNMENTS:
            raise BadNumber(count)
        _check_fill(fill)
        self._amount = count
        self._fill = fill

    @property
    def amount(self):
        """The number to whose multiples it leads."""
        return self._amount

    @property
    def fill(self):
        """The cell that it repeats."""
        return self._fill

    def __eq__(self, other):
        return isinstance(other, Alignment) and self._amount == other._amount and self._fill == other._fill


class Gap:
    """A number of cells of a fill."""

    def __init__(self, count, fill=0):
        if not is_number(count) or not 0 <= count <= MOST_IN_GAP:
            raise BadNumber(count)
        _check_fill(fill)
        self._amount = count
        self._fill = fill

    @property
    def amount(self):
        """The number of the cells."""
        return self._amount

    @property
    def fill(self):
        """The cell that it repeats."""
        return self._fill

    def __eq__(self, other):
        return isinstance(other, Gap) and self._amount == other._amount and self._fill == other._fill


class Section:
    """A name with a row of fragments."""

    def __init__(self, name, *fragments):
        if not is_name(name):
            raise BadName(name)
        for index, fragment in enumerate(fragments):
            if not isinstance(fragment, (Data, Choice, Alignment, Gap)):
                raise BadObject(index)
        self._name = name
        self._fragments = fragments
        self._alignment = max([1, *[part.amount for part in fragments if isinstance(part, Alignment)]])

    @classmethod
    def of(cls, name, fragments):
        """The section of a name and the fragments in a tuple."""
        if not is_name(name):
            raise BadName(name)
        if not isinstance(fragments, tuple):
            raise BadObject(None)
        return cls(name, *fragments)

    @property
    def name(self):
        """The name."""
        return self._name

    @property
    def fragments(self):
        """The tuple of the fragments."""
        return self._fragments

    @property
    def alignment(self):
        """The greatest alignment among the fragments, 1 without one."""
        return self._alignment

    def __len__(self):
        return len(self._fragments)

    def __getitem__(self, index):
        if not is_number(index) or not 0 <= index < len(self._fragments):
            raise BadNumber(index)
        return self._fragments[index]

    def __iter__(self):
        raise TypeError("a section is read by its fragments")

    def __eq__(self, other):
        return isinstance(other, Section) and self._name == other._name and self._fragments == other._fragments

    def __add__(self, other):
        if not isinstance(other, Section):
            return NotImplemented
        if other.name != self._name:
            raise BadName(other.name)
        fragments = self._fragments + other.fragments
        return Section(self._name, *fragments)


def _is_patch(value):
    if not isinstance(value, tuple) or len(value) != 2:
        return False
    return isinstance(value[0], str) and value[0] in PATCHES and isinstance(value[1], Linear)


def _check_fill(fill):
    if not is_cell(fill):
        raise BadNumber(fill)
