"""Rows of cells, read as instructions."""

from macroasm.arithmetic import is_number
from macroasm.errors import BadNumber, NoInstruction
from macroasm.fields import are_cells, is_address, read_operand, width_of

MOST_IN_ROW = 65536


def decoded(table, cells, at=0, *, base=0):
    """The name, the number of the form, the operands and the length of what begins at an index."""
    _check_row(cells, (at,))
    _check_base(base)
    found = _read_at(table, cells, at, base)
    if found is None:
        raise NoInstruction(at)
    return found


def sweep(table, cells, at=0, *, base=0):
    """Yield the index, the name, the number of the form and the operands of the instructions from an index on."""
    _check_row(cells, (at,))
    _check_base(base)
    index = at
    found = _read_at(table, cells, index, base)
    while found is not None:
        name, number, operands, length = found
        yield index, name, number, operands
        index = index + length
        found = _read_at(table, cells, index, base)


def stops(table, cells, at=0):
    """The tuple of the stops of a sweep."""
    _check_row(cells, (at,))
    found = [at]
    behind = _next_stop(table, cells, at)
    while behind is not None:
        found.append(behind)
        behind = _next_stop(table, cells, behind)
    return tuple(found)


def meeting(table, cells, one, other):
    """The least common stop of two sweeps, None without one."""
    _check_row(cells, (one, other))
    least, most = min(one, other), max(one, other)
    while least is not None and least != most:
        behind = _next_stop(table, cells, least)
        if behind is None or behind <= most:
            least = behind
        else:
            least, most = most, behind
    return least


def entries(table, cells):
    """The ascending tuple of the indexes whose sweeps stop at the end."""
    _check_row(cells, ())
    leads = [True] * (len(cells) + 1)
    for at in reversed(range(len(cells))):
        behind = _next_stop(table, cells, at)
        leads[at] = behind is not None and leads[behind]
    return tuple([at for at, is_led in enumerate(leads) if is_led])


def is_least(table, cells, *, base=0):
    """Whether a row is whole, and each form the first one of its instruction that fits."""
    _check_row(cells, ())
    _check_base(base)
    at = 0
    while at < len(cells):
        found = table.begun_at(cells, at)
        if found is None or not _is_first(table, found, cells, at, base):
            return False
        at = at + found[2]
    return True


def _is_first(table, found, cells, at, base):
    """Whether what begins at an index has the first form of its instruction that fits."""
    name, number, length, form = found
    if number == 0:
        return True
    operands = _read_operands(form, cells, at, base + at + length)
    return table.first_fitting(name, operands, base + at) == number


def _check_row(cells, indexes):
    if not isinstance(cells, tuple) or len(cells) > MOST_IN_ROW or not are_cells(cells):
        raise BadNumber(cells)
    for index in indexes:
        if not is_number(index) or not 0 <= index <= len(cells):
            raise BadNumber(index)


def _check_base(base):
    if not is_address(base):
        raise BadNumber(base)


def _next_stop(table, cells, at):
    found = table.begun_at(cells, at)
    return None if found is None else at + found[2]


def _read_at(table, cells, at, base):
    """The name, the number of the form, the operands and the length of what begins at an index, or None."""
    found = table.begun_at(cells, at)
    if found is None:
        return None
    name, number, length, form = found
    return name, number, _read_operands(form, cells, at, base + at + length), length


def _read_operands(form, cells, at, behind):
    """The operands of a form that begins at an index; behind: the address behind it."""
    opcode, fields = form
    operands = []
    begin = at + len(opcode)
    for field in fields:
        end = begin + width_of(field)
        operands.append(read_operand(field, cells[begin:end], behind))
        begin = end
    return tuple(operands)
