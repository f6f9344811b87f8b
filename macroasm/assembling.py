"""Plain lines that become an object."""

from macroasm.errors import (
    BadBlock, BadNumber, Cycle, LimitTrouble, LookupTrouble, NoName, NotPlain, StateTrouble, Taken, TextError, Trouble,
    ValueTrouble,
)
from macroasm.fields import is_in_field, number_cells
from macroasm.fragments import PATCHES, Alignment, Choice, Data, Gap, Section
from macroasm.names import Names
from macroasm.objects import PRIVATE, Object, renamed, renamed_form
from macroasm.statements import is_instruction, parts_of, read_statement, string_in

FIRST_SECTION = "main"
# The fields of the operands of data.
DATA_FIELDS = {"byte": "b1", "word": "b2", "long": "b4"}
FILLING = ("space", "align")


def object_of(lines, table):
    """The object of the pairs (plain line, origin) in a tuple."""
    assembly = Assembly(table)
    for line, origin in lines:
        assembly.take(line, origin)
    return assembly.finished()


class Written:
    """A statement with its origin, the place at which its names are searched, and the fragment that it makes."""

    def __init__(self, statement, origin, place):
        self.statement = statement
        self.written_at = origin
        self.searched_at = place
        self.fragment = None


class Assembly:
    """The lines of a text that have been taken, and what they have told so far."""

    def __init__(self, table):
        self._table = table
        self._names = Names()
        self._read = {}
        self._rows = []
        self._section = FIRST_SECTION
        # The rows that make fragments, by the names of sections in the order of their first mention.
        self._contents = {}
        self._places = {}
        # The origins of the equations and the open scopes.
        self._equation_origins = {}
        self._scope_origins = []
        self._imported = []
        self._exported = {}

    def take(self, line, origin):
        """Go on with a plain line."""
        try:
            self._take_statement(self._statement_of(line), origin)
        except (TextError, LookupTrouble, StateTrouble, LimitTrouble) as cause:
            raise Trouble(origin, cause) from cause

    def finished(self):
        """The object of all lines that were taken."""
        if self._scope_origins:
            origin = self._scope_origins[-1]
            raise Trouble(origin, BadBlock(origin[0][1]))
        for row in self._rows:
            self._check_names(row)
        resolved = self._resolved()
        for row in self._rows:
            if row.statement.operation in FILLING:
                _give_fragment(row, resolved)
        for row in self._rows:
            if row.statement.operation not in FILLING:
                _give_fragment(row, resolved)
        return self._whole(resolved)

    def _statement_of(self, line):
        if isinstance(line, str) and line in self._read:
            return self._read[line]
        parts = parts_of(line)
        many = 0
        if is_instruction(parts.operation):
            many = len(self._table[parts.operation][0][1])
        self._read[line] = read_statement(parts, (many, many))
        return self._read[line]

    def _take_statement(self, statement, origin):
        if statement.label is not None:
            full = self._names.add_label(statement.label)
            self._places[full] = (self._section, len(self._content()))
        operation = statement.operation
        if operation == "section":
            self._section = statement.operands[0]
            self._content()
        elif operation == "scope":
            self._names.open_scope(statement.operands[0])
            self._scope_origins.append(origin)
        elif operation == "endscope":
            self._close_scope(origin)
        elif operation == "import":
            self._imported.extend([self._names.add_import(path) for path in statement.operands])
        elif operation is not None:
            self._take_row(statement, origin)

    def _take_row(self, statement, origin):
        """Go on with a statement whose names are looked at behind all lines."""
        if statement.operation == "export":
            for path in statement.operands:
                self._export(path)
        elif statement.operation == "=":
            tree = statement.expression_trees()[0]
            full = self._names.add_equation(statement.operands[0], tree)
            self._equation_origins[full] = origin
        row = Written(statement, origin, self._names.place)
        self._rows.append(row)
        if statement.operation not in ("export", "="):
            self._content().append(row)

    def _content(self):
        """The list of the rows that make the fragments of the present section, which counts from now on."""
        return self._contents.setdefault(self._section, [])

    def _close_scope(self, origin):
        if not self._scope_origins:
            raise BadBlock(origin[0][1])
        self._names.close_scope()
        self._scope_origins.pop()

    def _export(self, path):
        if path in self._exported:
            raise Taken(path)
        self._exported[path] = True

    def _check_names(self, row):
        """Trouble for the first name that stands for nothing."""
        try:
            for path in row.statement.paths():
                self._names.search(path, row.searched_at)
            if row.statement.operation == "export":
                self._check_exports(row.statement.operands)
        except NoName as cause:
            raise Trouble(row.written_at, cause) from cause

    def _check_exports(self, paths):
        for path in paths:
            if path not in self._places and path not in self._equation_origins:
                raise NoName(path)

    def _resolved(self):
        """The Resolved of all names."""
        try:
            return self._names.resolved()
        except Cycle as ring:
            raise Trouble(self._equation_origins[ring.names[0]], ring) from ring
        except (ValueTrouble, LimitTrouble) as cause:
            raise Trouble(self._equation_origins[self._names.least_refused()], cause) from cause

    def _whole(self, resolved):
        names = {full: self._name_outside(full) for full in list(self._places) + list(self._equation_origins)}
        parts = []
        for section, rows in self._contents.items():
            fragments = [renamed(row.fragment, names) for row in rows]
            parts.append((Section(section, *fragments), [row.written_at for row in rows]))
        labels = {names[full]: place for full, place in self._places.items()}
        equations = {names[full]: renamed_form(resolved[full], names) for full in self._equation_origins}
        return Object(1, parts, labels, equations, self._imported)

    def _name_outside(self, full):
        return full if full in self._exported else f"1{PRIVATE}{full}"


def _give_fragment(row, resolved):
    """Give a row its fragment; Trouble for the first of its operands that is refused."""
    try:
        row.fragment = _fragment_of(row.statement, row.searched_at, resolved)
    except (TextError, ValueTrouble, LimitTrouble) as cause:
        raise Trouble(row.written_at, cause) from cause


def _fragment_of(statement, place, resolved):
    """The fragment of a statement, None if it makes none."""
    operation = statement.operation
    trees = statement.expression_trees()
    if operation in ("export", "="):
        return None
    if operation == "text":
        cells = [ord(sign) for sign in string_in(statement.operands[0])]
        return Data(*cells)
    if operation in FILLING:
        return _filling_of(operation, trees, place, resolved)
    if operation in DATA_FIELDS:
        return _data_of(DATA_FIELDS[operation], trees, place, resolved)
    return Choice(operation, tuple([resolved.form_at(tree, place) for tree in trees]))


def _filling_of(operation, trees, place, resolved):
    """The gap or the alignment of a count and perhaps a fill; the count is wholly looked at first."""
    count = _plain_value(trees[0], place, resolved)
    fragment = _fragment_for(operation, count, 0)
    if len(trees) == 1:
        return fragment
    return _fragment_for(operation, count, _plain_value(trees[1], place, resolved))


def _fragment_for(operation, count, fill):
    return Gap(count, fill) if operation == "space" else Alignment(count, fill)


def _plain_value(tree, place, resolved):
    form = resolved.form_at(tree, place)
    if not form.is_plain:
        raise NotPlain(form.unknowns[0])
    return form.constant


def _data_of(field, trees, place, resolved):
    """The data of operands: cells of those that are plain, and patches."""
    items = []
    for tree in trees:
        form = resolved.form_at(tree, place)
        if not form.is_plain:
            items.append((field, form))
        elif is_in_field(form.constant, PATCHES[field]):
            items.extend(number_cells(form.constant, PATCHES[field]))
        else:
            raise BadNumber(form.constant)
    return Data(*items)
