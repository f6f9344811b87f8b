"""The fields of instructions: which operands fit them, and the cells that they have."""

from macroasm.arithmetic import is_number, is_value
from macroasm.errors import BadName, BadNumber

LAST_ADDRESS = 2 ** 40
LAST_CELL = 255
# The numbers of the cells that fields have; a pair has none.
WIDTHS = {"u1": 1, "u2": 2, "u4": 4, "s1": 1, "s2": 2, "s4": 4, "r1": 1, "r2": 2, "r4": 4}
# The least and the greatest number that is written in a field.
BOUNDS = {
    "u1": (0, 255), "u2": (0, 65535), "u4": (0, 4294967295),
    "s1": (-128, 127), "s2": (-32768, 32767), "s4": (-2147483648, 2147483647),
    "r1": (-128, 127), "r2": (-32768, 32767), "r4": (-2147483648, 2147483647),
}


def is_address(value):
    """Whether a value is an address."""
    return is_number(value) and 0 <= value <= LAST_ADDRESS


def is_cell(value):
    """Whether a value is a cell."""
    return is_number(value) and 0 <= value <= LAST_CELL


def are_cells(values):
    """Whether all of many values are cells; so many that each is looked at without a call."""
    for value in values:
        if not isinstance(value, int) or value is True or value is False or not 0 <= value <= LAST_CELL:
            return False
    return True


def is_field(value):
    """Whether a value is a field."""
    if isinstance(value, tuple):
        return len(value) == 2 and value[0] == "n" and is_value(value[1])
    return isinstance(value, str) and value in WIDTHS


def width_of(field):
    """The number of the cells that a field has."""
    return 0 if isinstance(field, tuple) else WIDTHS[field]


def field_bounds(field, behind=0):
    """The least and the greatest operand that fits a field; behind: the address behind the instruction."""
    if not is_field(field):
        raise BadName(field)
    if not is_address(behind):
        raise BadNumber(behind)
    if isinstance(field, tuple):
        return field[1], field[1]
    least, most = BOUNDS[field]
    start = start_of(field, behind)
    return least + start, most + start


def start_of(field, behind):
    """What is taken off an operand when it is written: the address behind for an r field, nothing for others."""
    return behind if field[0] == "r" else 0


def unfit_index(fields, operands, behind, moving):
    """The index of the first operand that does not fit its field, None without one.

    behind: the address behind the instruction; moving: the indexes of operands that depend on labels.
    """
    for index, field in enumerate(fields):
        if isinstance(field, tuple):
            if operands[index] != field[1] or index in moving:
                return index
        else:
            least, most = BOUNDS[field]
            start = behind if field[0] == "r" else 0
            if not least <= operands[index] - start <= most:
                return index
    return None


def number_cells(number, many):
    """The cells of a number, the lowest one first; below 0 they are those of endlessly many ones in front."""
    return tuple([number >> 8 * place & LAST_CELL for place in range(many)])


def is_in_field(value, many):
    """Whether a value can be written in a number of cells, with a sign or without one."""
    most = 1 << 8 * many
    return -most // 2 <= value < most


def operand_cells(field, operand, behind):
    """The cells of an operand that fits a field."""
    return number_cells(operand - start_of(field, behind), width_of(field))


def read_operand(field, cells, behind):
    """The operand that is written in the cells of a field."""
    if isinstance(field, tuple):
        return field[1]
    number = sum([cell << 8 * place for place, cell in enumerate(cells)])
    is_below = field[0] != "u" and cells[-1] > LAST_CELL // 2
    return number + start_of(field, behind) - (1 << 8 * len(cells) if is_below else 0)
