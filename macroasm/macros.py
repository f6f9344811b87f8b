"""Blocks and macros of a text."""

from macroasm.blocks import check_lengths, plan_of, program_lines
from macroasm.brackets import split_operands
from macroasm.errors import BadLine, BadName, BadOperands, StateTrouble, Taken, TextError, Trouble
from macroasm.filling import body_line, body_pieces, check_body_line, filled_line
from macroasm.lines import is_free_name, is_name, operands_of, unbraced, uncommented
from macroasm.origins import Origin, is_text_name
from macroasm.scanning import head_parts

REST = ".."
MOST_PARAMETERS = 8
NO_PARAMETER = ("", None)


def blocks_of(text):
    """Tuples (word, first line, last line) for the blocks of a text, by first lines."""
    plan = plan_of(program_lines(text))
    return [(block.word, block.begin + 1, block.end + 1) for block in plan.blocks]


def macros_of(text, *, source="text"):
    """A dict of the Macros of a text by their names, in order."""
    check_source(source)
    lines = program_lines(text)
    return defined_macros(lines, plan_of(lines), source, {})


def check_source(source):
    """BadName for what is no name of a text."""
    if not is_text_name(source):
        raise BadName(source)


def defined_macros(lines, plan, source, library):
    """The Macros that lines define, by their names; library: those that are known beside them."""
    macros = {}
    for block in plan.blocks:
        if block.word == "macro":
            macro = _defined(lines, block, source, list(library) + list(macros))
            macros[macro.macro_name] = macro
    return macros


def _defined(lines, block, source, taken):
    line = block.begin + 1
    try:
        macro_name, parameters = _read_definition(lines[block.begin], taken)
    except (TextError, StateTrouble) as cause:
        raise Trouble(Origin((source, line)), cause) from cause
    names = [name for name, _ in parameters]
    for at in range(line, block.end):
        _check_defined_line(lines[at], names, Origin((source, at + 1)))
    return Macro(macro_name, parameters, lines[line:block.end], source=source, line=line)


def _check_defined_line(line, names, origin):
    try:
        check_body_line(body_line(line), names)
    except BadLine as cause:
        raise Trouble(origin, cause) from cause


def _read_definition(line, taken):
    """The name and the parameters of a definition."""
    operands_of(line)
    text = uncommented(line[head_parts(line)[2]:])
    macro_name = _front_of(text)
    if not is_free_name(macro_name):
        raise BadName(macro_name)
    if macro_name in taken:
        raise Taken(macro_name)
    operands = split_operands(text, len(macro_name))
    parameters = tuple([_read_parameter(operand) for operand in operands])
    _check_parameters(parameters)
    return macro_name, parameters


def _front_of(text):
    """All up to the first blank or comma."""
    end = 0
    while end < len(text) and text[end] not in " ,":
        end += 1
    return text[:end]


def _read_parameter(operand):
    """The pair of a parameter; one that is not allowed, where the operand has not the form."""
    if operand.endswith(REST):
        return operand[:-len(REST)].strip(" "), REST
    name, sign, default = operand.partition("=")
    if sign == "":
        return operand, None
    if not is_name(name.strip(" ")) or unbraced(default.strip(" ")) == REST:
        return NO_PARAMETER
    return name.strip(" "), unbraced(default.strip(" "))


def _check_parameters(parameters):
    if not isinstance(parameters, tuple):
        raise BadOperands(0)
    names = []
    for index, pair in enumerate(parameters):
        is_last = index == len(parameters) - 1
        if index == MOST_PARAMETERS or not _is_parameter(pair, is_last) or pair[0] in names:
            raise BadOperands(index)
        names.append(pair[0])


def _is_parameter(pair, is_last):
    if not isinstance(pair, tuple) or len(pair) != 2 or not is_name(pair[0]):
        return False
    default = pair[1]
    if default is None or default == REST:
        return default is None or is_last
    return isinstance(default, str) and "$" not in default and "\n" not in default


def _check_body(body):
    if not isinstance(body, tuple):
        raise BadLine(0)
    for line in body:
        if not isinstance(line, str) or "\n" in line:
            raise BadLine(0)


class Macro:
    """A macro: its name, its parameters, and the lines of its body."""

    def __init__(self, macro_name, parameters, body, *, source="text", line=1):
        if not is_free_name(macro_name):
            raise BadName(macro_name)
        _check_parameters(parameters)
        _check_body(body)
        names = [name for name, _ in parameters]
        bare = tuple([body_line(text) for text in body])
        for text in bare:
            check_body_line(text, names)
        check_lengths(body)
        self._plan = plan_of(body, line + 1, in_macro=True)
        self._macro_name = macro_name
        self._parameters = parameters
        self._body = body
        # Nothing is filled in in comments, so the lines are kept without them.
        self._pieces = tuple([body_pieces(text, names) for text in bare])
        self._place = (source, line)
        self._parts = (macro_name, parameters, body)

    @property
    def macro_name(self):
        """The name."""
        return self._macro_name

    @property
    def parameters(self):
        """A tuple of pairs of a name and a default, None without one, `..` for the rest."""
        return self._parameters

    @property
    def body(self):
        """A tuple of the lines, as they are written."""
        return self._body

    @property
    def place(self):
        """The name of the source, and the line in front of the body."""
        return self._place

    def __eq__(self, other):
        return isinstance(other, Macro) and self._parts == other._parts

    def arguments(self, operands):
        """The tuple of the arguments, for the operands of a call."""
        found = [self._argument(index, operands) for index in range(len(self._parameters))]
        for index, operand in enumerate(operands):
            is_too_many = index >= len(found) and not self._has_rest()
            if is_too_many or "$" in operand:
                raise BadOperands(index)
        return tuple(found)

    def filled(self, operands, number):
        """The lines of the body, filled for the operands and the number of a call."""
        lines = self.written(operands, self.arguments(operands), number)
        check_lengths(lines)
        return lines

    def written(self, operands, arguments, number):
        """As filled, with the arguments for the operands, and however long the lines have become."""
        texts = {name: arguments[index] for index, (name, _) in enumerate(self._parameters)}
        texts["#"] = str(len(self._further(operands)))
        texts["@"] = str(number)
        texts[""] = ""
        return tuple([filled_line(pieces, texts) for pieces in self._pieces])

    def plan_of_body(self):
        """The Plan of the lines of the body."""
        return self._plan

    def _has_rest(self):
        return len(self._parameters) > 0 and self._parameters[-1][1] == REST

    def _further(self, operands):
        return operands[len(self._parameters) - 1:] if self._has_rest() else ()

    def _argument(self, index, operands):
        default = self._parameters[index][1]
        if default == REST:
            return ", ".join(self._further(operands))
        if index < len(operands) and operands[index] != "":
            return unbraced(operands[index])
        if default is None:
            raise BadOperands(index)
        return default
