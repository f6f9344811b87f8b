"""Rows of cells, read as instructions."""

from macroasm.arithmetic import is_number
from macroasm.errors import BadNumber, NoInstruction
from macroasm.fields import is_address, is_cell, read_operand, width_of

MOST_IN_ROW = 65536


def decoded(table, cells, at=0, *, base=0):
    """The name, the number of the form, the operands and the length of what begins at an index."""
    _check_row(cells, (at,))
    _check_base(base)
    found = _read_at(table, cells, at, base)
    if found is None:
        raise NoInstruction(at)
    return found


def sweep(table, cells, at=0, *, base=0):
    """Yield the index, the name, the number of the form and the operands of the instructions from an index on."""
    _check_row(cells, (at,))
    _check_base(base)
    index = at
    found = _read_at(table, cells, index, base)
    while found is not None:
        name, number, operands, length = found
        yield index, name, number, operands
        index = index + length
        found = _read_at(table, cells, index, base)


def stops(table, cells, at=0):
    """The tuple of the stops of a sweep."""
    _check_row(cells, (at,))
    found = [at]
    behind = _next_stop(table, cells, at)
    while behind is not None:
        found.append(behind)
        behind = _next_stop(table, cells, behind)
    return tuple(found)


def meeting(table, cells, one, other):
    """The least common stop of two sweeps, None without one."""
    _check_row(cells, (one, other))
    least, most = min(one, other), max(one, other)
    while least is not None and least != most:
        behind = _next_stop(table, cells, least)
        if behind is None or behind <= most:
            least = behind
        else:
            least, most = most, behind
    return least


def entries(table, cells):
    """The ascending tuple of the indexes whose sweeps stop at the end."""
    _check_row(cells, ())
    leads = [True] * (len(cells) + 1)
    for at in reversed(range(len(cells))):
        behind = _next_stop(table, cells, at)
        leads[at] = behind is not None and leads[behind]
    return tuple([at for at, is_led in enumerate(leads) if is_led])


def is_least(table, cells, *, base=0):
    """Whether a row is whole, and each form the first one of its instruction that fits."""
    _check_row(cells, ())
    _check_base(base)
    at = 0
    while at < len(cells):
        found = _read_at(table, cells, at, base)
        if found is None or table.first_fitting(found[0], found[2], base + at) != found[1]:
            return False
        at = at + found[3]
    return True


def _check_row(cells, indexes):
    is_row = isinstance(cells, tuple) and len(cells) <= MOST_IN_ROW
    if not is_row or not all([is_cell(cell) for cell in cells]):
        raise BadNumber(cells)
    for index in indexes:
        if not is_number(index) or not 0 <= index <= len(cells):
            raise BadNumber(index)


def _check_base(base):
    if not is_address(base):
        raise BadNumber(base)


def _next_stop(table, cells, at):
    found = table.begun_at(cells, at)
    return None if found is None else at + found[2]


def _read_at(table, cells, at, base):
    """The name, the number of the form, the operands and the length of what begins at an index, or None."""
    found = table.begun_at(cells, at)
    if found is None:
        return None
    name, number, length = found
    opcode, fields = table[name][number]
    operands = []
    begin = at + len(opcode)
    for field in fields:
        end = begin + width_of(field)
        operands.append(read_operand(field, cells[begin:end], base + at + length))
        begin = end
    return name, number, tuple(operands), length
