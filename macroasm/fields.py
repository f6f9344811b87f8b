"""The fields of instructions, and the operands that fit them."""

from macroasm.arithmetic import is_number, is_value
from macroasm.errors import BadName, BadNumber

LAST_ADDRESS = 2 ** 40
LAST_CELL = 255
# The numbers of the cells that the fields have.
WIDTHS = {"u1": 1, "u2": 2, "u4": 4, "s1": 1, "s2": 2, "s4": 4, "r1": 1, "r2": 2, "r4": 4}


def is_address(value):
    """Whether a value is an address."""
    return is_number(value) and 0 <= value <= LAST_ADDRESS


def is_cell(value):
    """Whether a value is a cell."""
    return is_number(value) and 0 <= value <= LAST_CELL


def is_field(value):
    """Whether a value is a field."""
    if isinstance(value, tuple):
        return len(value) == 2 and isinstance(value[0], str) and value[0] == "n" and is_value(value[1])
    return isinstance(value, str) and value in WIDTHS


def field_bounds(field, behind=0):
    """The least and the greatest operand that fits a field; behind: the address behind the instruction."""
    if not is_field(field):
        raise BadName(field)
    if not is_address(behind):
        raise BadNumber(behind)
    return bounds_at(field, behind)


def bounds_at(field, behind):
    """As field_bounds, for an address that may also be above the last one."""
    if isinstance(field, tuple):
        return field[1], field[1]
    half = 1 << 8 * WIDTHS[field] - 1
    if field[0] == "u":
        return 0, 2 * half - 1
    start = behind if field[0] == "r" else 0
    return start - half, start + half - 1
