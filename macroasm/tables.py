"""Tables of instructions, which never change."""

from macroasm.arithmetic import is_number, is_value
from macroasm.errors import BadNumber, BadOperands, BadTable, NoInstruction
from macroasm.fields import are_cells, is_address, is_field, operand_cells, unfit_index, width_of
from macroasm.lines import is_free_name

MOST_ROWS = 100
MOST_FORMS = 6
MOST_IN_OPCODE = 3
MOST_OPERANDS = 4
MOST_COUNTED = 8


def length_of(form):
    """The number of all cells of a form."""
    opcode, fields = form
    return len(opcode) + sum([width_of(field) for field in fields])


class Table:
    """The instructions of a machine."""

    def __init__(self, *rows):
        _check_rows(rows)
        self._rows = rows
        self._forms = {name: forms for name, forms in rows}
        self._lengths = {name: [length_of(form) for form in forms] for name, forms in rows}
        self._opcodes = _opcodes_of(rows)
        self._short = {opcode[0]: found for opcode, found in self._opcodes.items() if len(opcode) == 1}
        self._longer_sizes = sorted(set([len(opcode) for opcode in self._opcodes if len(opcode) > 1]))

    @classmethod
    def of(cls, rows):
        """The table of the rows in a tuple."""
        if not isinstance(rows, tuple):
            raise BadTable(None, None)
        return cls(*rows)

    @property
    def instructions(self):
        """The rows, pairs of a name and its forms."""
        return self._rows

    def __len__(self):
        return len(self._rows)

    def __contains__(self, name):
        return isinstance(name, str) and name in self._forms

    def __getitem__(self, name):
        if not isinstance(name, str) or name not in self._forms:
            raise NoInstruction(name)
        return self._forms[name]

    def __iter__(self):
        raise TypeError("a table is read by its instructions")

    def __eq__(self, other):
        return isinstance(other, Table) and self._rows == other._rows

    def __or__(self, other):
        if not isinstance(other, Table):
            return NotImplemented
        rows = self._rows + tuple([row for row in other.instructions if row not in self._rows])
        return Table(*rows)

    def __call__(self, name, operands, address=0):
        self._check_operands(name, operands)
        _check_address(address)
        number = self.first_fitting(name, operands, address)
        if number is None:
            raise BadOperands(None)
        return _cells_of(self._forms[name][number], operands, address)

    def fitting(self, name, operands, *, address=0, first=0, moving=()):
        """The number of the first form, from one on, that fits operands, None without one."""
        self._check_operands(name, operands)
        _check_address(address)
        if not is_number(first) or not 0 <= first <= MOST_FORMS:
            raise BadNumber(first)
        return self.first_fitting(name, operands, address, first, moving)

    def first_fitting(self, name, operands, address, first=0, moving=()):
        """As fitting, of values that are known to be right, but for an address that may be above the last one."""
        forms = self._forms[name]
        lengths = self._lengths[name]
        for number in range(first, len(forms)):
            if unfit_index(forms[number][1], operands, address + lengths[number], moving) is None:
                return number
        return None

    def encoded(self, name, number, operands, *, address=0):
        """The cells of operands in one of the forms."""
        forms = self[name]
        if not is_number(number) or not 0 <= number < len(forms):
            raise BadNumber(number)
        self._check_operands(name, operands)
        _check_address(address)
        form = forms[number]
        index = unfit_index(form[1], operands, address + length_of(form), ())
        if index is not None:
            raise BadOperands(index)
        return _cells_of(form, operands, address)

    def begun_at(self, cells, at):
        """The form that begins at an index, as _opcodes_of tells it, None without one."""
        if at == len(cells):
            return None
        found = self._short.get(cells[at])
        if found is None and self._longer_sizes:
            found = self._begun_by_more(cells, at)
        return found if found is None or at + found[2] <= len(cells) else None

    def _begun_by_more(self, cells, at):
        for many in self._longer_sizes:
            found = self._opcodes.get(cells[at:at + many])
            if found is not None:
                return found
        return None

    def free_opcodes(self, length):
        """How many free opcodes have so many cells."""
        if not is_number(length) or not 1 <= length <= MOST_IN_OPCODE:
            raise BadNumber(length)
        short = [opcode for opcode in self._opcodes if len(opcode) <= length]
        longer = [opcode for opcode in self._opcodes if len(opcode) > length]
        begun = sum([_rows_of(length - len(opcode)) for opcode in short])
        return _rows_of(length) - begun - len(set([opcode[:length] for opcode in longer]))

    def whole_rows(self, count):
        """How many whole rows have so many cells."""
        if not is_number(count) or not 0 <= count <= MOST_COUNTED:
            raise BadNumber(count)
        sizes = [(found[2], len(opcode)) for opcode, found in self._opcodes.items()]
        rows = [1]
        for many in range(1, count + 1):
            parts = [_rows_of(length - own) * rows[many - length] for length, own in sizes if length <= many]
            rows.append(sum(parts))
        return rows[count]

    def _check_operands(self, name, operands):
        fields = self[name][0][1]
        if not isinstance(operands, tuple) or len(operands) != len(fields):
            raise BadOperands(None)
        if not all([is_value(operand) for operand in operands]):
            raise BadOperands(None)


def _check_rows(rows):
    """BadTable for the first row or form that cannot stand where it stands."""
    if len(rows) > MOST_ROWS:
        raise BadTable(None, None)
    names = {}
    # The opcodes so far, and what they begin with, lead to whether it is an opcode itself.
    begun = {}
    for row, given in enumerate(rows):
        if not _is_row(given) or given[0] in names:
            raise BadTable(row, None)
        names[given[0]] = True
        forms = given[1]
        for number, form in enumerate(forms):
            if not _is_form(form) or not _may_follow(form, forms[:number]) or _is_met(form[0], begun):
                raise BadTable(row, number)
            opcode = form[0]
            for many in range(1, len(opcode)):
                begun[opcode[:many]] = False
            begun[opcode] = True


def _is_row(value):
    if not isinstance(value, tuple) or len(value) != 2 or not is_free_name(value[0]):
        return False
    return isinstance(value[1], tuple) and 1 <= len(value[1]) <= MOST_FORMS


def _is_form(value):
    if not isinstance(value, tuple) or len(value) != 2:
        return False
    opcode, fields = value
    if not isinstance(opcode, tuple) or not isinstance(fields, tuple):
        return False
    if not 1 <= len(opcode) <= MOST_IN_OPCODE or len(fields) > MOST_OPERANDS:
        return False
    return are_cells(opcode) and all([is_field(field) for field in fields])


def _may_follow(form, earlier):
    """Whether a form may stand behind those ahead of it in its row."""
    if earlier == ():
        return True
    return len(form[1]) == len(earlier[-1][1]) and length_of(form) > length_of(earlier[-1])


def _is_met(opcode, begun):
    """Whether an opcode begins or equals an earlier one, or one of them begins it."""
    if opcode in begun:
        return True
    for many in range(1, len(opcode)):
        if begun.get(opcode[:many], False):
            return True
    return False


def _opcodes_of(rows):
    """A dict from the opcodes to the name, the number and the length of their forms, and the forms."""
    found = {}
    for name, forms in rows:
        for number, form in enumerate(forms):
            found[form[0]] = (name, number, length_of(form), form)
    return found


def _check_address(address):
    if not is_address(address):
        raise BadNumber(address)


def _rows_of(many):
    """How many rows have so many cells."""
    return 1 << 8 * many


def _cells_of(form, operands, address):
    return form_cells(form, operands, address + length_of(form))


def form_cells(form, operands, behind):
    """The cells of operands that fit a form; behind: the address behind it."""
    opcode, fields = form
    cells = list(opcode)
    for index, field in enumerate(fields):
        cells.extend(operand_cells(field, operands[index], behind))
    return tuple(cells)
