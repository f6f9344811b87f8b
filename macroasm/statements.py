"""Statements: plain lines, read."""

from macroasm.errors import BadLine, BadOperands, LimitTrouble, TextError
from macroasm.expressions import tree_of
from macroasm.lines import Line, is_name, is_used, line_of, tokens

# No line has room for more operands.
MOST_OPERANDS = 400
# The least and the greatest number of operands; all other operations are instructions.
COUNTS = {
    "section": (1, 1), "byte": (1, MOST_OPERANDS), "word": (1, MOST_OPERANDS), "long": (1, MOST_OPERANDS),
    "text": (1, 1), "space": (1, 2), "align": (1, 2), "scope": (1, 1), "endscope": (0, 0),
    "export": (1, MOST_OPERANDS), "import": (1, MOST_OPERANDS), "=": (2, 2),
}


class Statement:
    """A label, an operation with operands, or both."""

    def __init__(self, label, operation, operands):
        self._label = label
        self._operation = operation
        self._operands = tuple([text for text, _ in operands])
        self._trees = [tree for _, tree in operands if tree is not None]
        self._text = _normal_text(label, operation, self._operands)

    @property
    def label(self):
        """The label, None without one."""
        return self._label

    @property
    def operation(self):
        """The operation, None without one, `=` for an equation."""
        return self._operation

    @property
    def operands(self):
        """The tuple of the normal texts of the operands."""
        return self._operands

    @property
    def text(self):
        """The normal text."""
        return self._text

    def __eq__(self, other):
        return isinstance(other, Statement) and self._text == other._text

    def paths(self):
        """Yield the different names in the expressions, from the left."""
        told = {}
        for tree in self._trees:
            for name in tree.used:
                if name not in told:
                    told[name] = True
                    yield name

    def expression_trees(self):
        """A list of the trees of the expressions."""
        return list(self._trees)


def statement_of(line):
    """The statement of a plain line."""
    return read_statement(parts_of(line), (0, MOST_OPERANDS))


def parts_of(line):
    """The Line of a plain line; BadLine(0) if it has neither a label nor an operation."""
    parts = Line(line, made=True)
    if parts.label == "" and parts.operation == "":
        raise BadLine(0)
    return parts


def is_instruction(operation):
    """Whether an operation of a Line is an instruction."""
    return operation != "" and operation not in COUNTS


def read_statement(parts, counts):
    """The statement of a Line; counts: the least and the greatest number of operands that an instruction has."""
    operation = parts.operation
    least, most = COUNTS.get(operation, counts)
    operands = []
    for index, text in enumerate(parts.operands):
        if index == most:
            raise BadOperands(index)
        operands.append(_read_operand(operation, index, text))
    if len(operands) < least:
        raise BadOperands(len(operands))
    return Statement(_or_none(parts.label), _or_none(operation), operands)


def string_in(text):
    """What stands in a text that is a string and nothing else, None if it is not."""
    found = list(tokens(text, made=True))
    return found[0][1] if len(found) == 1 and found[0][0] == "string" else None


def _or_none(part):
    return None if part == "" else part


def _normal_text(label, operation, operands):
    if operation == "=":
        return " = ".join(operands)
    words = [] if label is None else [label + ":"]
    if operation is not None:
        words.append(operation)
    if operands != ():
        words.append(", ".join(operands))
    return " ".join(words)


def _read_operand(operation, index, text):
    """The normal text of an operand, and its tree, None if it is no expression; BadOperands if it has not its form."""
    if operation == "text":
        return _written_string(index, text), None
    if operation in ("section", "scope", "export", "import"):
        if not _is_named(operation, text):
            raise BadOperands(index)
        return text, None
    if operation == "=" and index == 0:
        # Whether an equation may have this name is told by adding it.
        return text, None
    try:
        tree = tree_of(text)
    except (TextError, LimitTrouble) as cause:
        raise BadOperands(index) from cause
    return tree.text, tree


def _written_string(index, text):
    told = string_in(text)
    if told is None:
        raise BadOperands(index)
    return line_of((("string", told),))


def _is_named(operation, text):
    """Whether an operand is a name, a name that may be a made one, or a path without made names."""
    if operation == "section":
        return is_name(text)
    if operation == "scope":
        return is_used(text) and "." not in text
    return is_used(text) and "@" not in text and not text.startswith(".")
