"""Names, tokens, and the parts of lines."""

from macroasm.brackets import bracket_ends, split_operands
from macroasm.errors import BadLine
from macroasm.scanning import (
    DIGITS, MOST_IN_MADE, MOST_IN_NAME, MOST_IN_PATH, check_line, comment_column, head_parts, quoted_end,
    row_end, token_at,
)

RESERVED = (
    "mod", "macro", "endmacro", "repeat", "endrepeat", "if", "ifsame", "else", "endif", "set", "section", "byte",
    "word", "long", "text", "space", "align", "scope", "endscope", "export", "import",
)
# The characters from the space on, in the order of their codes; a blank stands in the place of the sign for percent.
PRINTED = (
    " !\"#$ &'()*+,-./0123456789:;<=>?@ABCDEFGHIJKLMNOPQRSTUVWXYZ[\\]^_`abcdefghijklmnopqrstuvwxyz{|}~"
)
FIRST_PRINTED = 32


def is_name(value):
    """Whether a value is a name."""
    return isinstance(value, str) and value.isascii() and value.isidentifier() and len(value) <= MOST_IN_NAME


def is_reserved(value):
    """Whether a value is a reserved word."""
    return isinstance(value, str) and value in RESERVED


def is_free_name(value):
    """Whether a value is a name that is not reserved."""
    return is_name(value) and not is_reserved(value)


def is_used(value):
    """Whether a value is a path or a local name of a plain line."""
    if not isinstance(value, str):
        return False
    if is_name(value):
        return True
    if value.startswith("."):
        return is_name(value[1:])
    parts = value.split(".")
    return len(parts) <= MOST_IN_PATH and all([_is_part(part) for part in parts])


def _is_part(text):
    name, sign, digits = text.partition("@")
    if sign == "":
        return is_name(name)
    is_number = digits != "" and row_end(digits, 0, DIGITS, MOST_IN_MADE) == len(digits)
    return is_name(name) and is_number and digits[0] != "0"


def tokens(line, *, made=False):
    """Yield a tuple (sort, value, column) for each token of a line; made: whether it is a plain line."""
    check_line(line)
    at = 0
    while at < len(line) and line[at] != ";":
        if line[at] == " ":
            at += 1
            continue
        sort, value, end = token_at(line, at, made)
        yield sort, value, at
        at = end


def line_of(pairs):
    """The line of the tokens (sort, value), with a blank between."""
    return " ".join([_written(sort, value) for sort, value in pairs])


def _written(sort, value):
    if sort == "number":
        return str(value)
    if sort == "string":
        return "\"" + _escaped(value, "\"") + "\""
    if sort == "character":
        sign = "\n" if value == ord("\n") else PRINTED[value - FIRST_PRINTED]
        return "'" + _escaped(sign, "'") + "'"
    return value


def _escaped(text, quote):
    return text.replace("\\", "\\\\").replace(quote, "\\" + quote).replace("\n", "\\n")


def uncommented(line):
    """A line without its comment and the blanks at its ends."""
    check_line(line)
    return line[:comment_column(line, quoted_end)].strip(" ")


def head_of(line):
    """The label and the word of a line, each `""` if it is missing."""
    check_line(line)
    label, word, _ = head_parts(line)
    return label, word


def operands_of(line):
    """The operands behind the head of a line."""
    check_line(line)
    return split_operands(line, head_parts(line)[2])


def unbraced(text):
    """A text without its outer braces."""
    check_line(text)
    ends = bracket_ends(text)
    if text.startswith("{") and ends[0] == len(text) - 1:
        return text[1:-1]
    return text


class Line:
    """A line in its parts; a part that is missing is `""`, and the operands are `()` then."""

    def __init__(self, text, *, made=False):
        found = list(tokens(text, made=made))
        self._text = uncommented(text)
        self._is_equation = _begins_equation(found)
        if self._is_equation:
            self._label = ""
            self._operation = "="
            self._operands = _sides_of(text, found)
        else:
            self._label = _label_of(found)
            self._operation, self._operands = _action_of(text, found if self._label == "" else found[2:])
        self._parts = (self._label, self._operation, self._operands)

    @property
    def label(self):
        """The label without its colon."""
        return self._label

    @property
    def operation(self):
        """The operation, `=` for an equation."""
        return self._operation

    @property
    def operands(self):
        """The texts of the operands."""
        return self._operands

    @property
    def is_equation(self):
        """Whether the line is an equation."""
        return self._is_equation

    def __str__(self):
        return str(self._text)

    def __eq__(self, other):
        return isinstance(other, Line) and self._parts == other._parts


def _begins_equation(found):
    return len(found) > 1 and found[0][0] in ("name", "local", "own") and found[1][:2] == ("sign", "=")


def _sides_of(text, found):
    start = found[1][2] + 1
    bracket_ends(text)
    stop = comment_column(text, quoted_end)
    return found[0][1], text[start:stop].strip(" ")


def _is_single(token):
    sort, value, _ = token
    return sort == "name" and "." not in value


def _label_of(found):
    if len(found) < 2 or found[1][:2] != ("sign", ":"):
        return ""
    sort, value, column = found[0]
    is_label = sort in ("local", "own") or _is_single(found[0])
    return value if is_label and found[1][2] == column + len(value) else ""


def _action_of(text, found):
    """The operation and the operands of a line, by its tokens behind the label."""
    if not found:
        return "", ()
    _, value, column = found[0]
    if not _is_single(found[0]) or "@" in value:
        raise BadLine(column)
    return value, split_operands(text, column + len(value))
