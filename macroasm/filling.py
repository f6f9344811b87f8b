"""What is written into lines: arguments, values of expressions, numbers of calls."""

from macroasm.errors import BadLine
from macroasm.expressions import tree_of, value_of
from macroasm.scanning import LETTERS, NAME_SIGNS, bare_part, loose_end, row_end

# What may stand behind a `$` without being the name of a parameter.
IN_ALL_LINES = ("(", "$", "|")
IN_BODIES = ("#", "@")


def check_own_names(line):
    """BadLine for an `@` that begins no own name; the line is looked at up to its comment."""
    columns = bare_part(line, loose_end)[0]
    for at in columns:
        if line[at] != "@" or _is_behind(line, at, "$"):
            continue
        if at > 0 and line[at - 1] in NAME_SIGNS or not _is_named(line, at):
            raise BadLine(at)


def body_line(line):
    """A line of a body without its comment; the blanks at the ends stay."""
    return line[:bare_part(line, loose_end)[1]]


def check_body_line(line, names):
    """BadLine for a `$` or an `@` that is not known in a line of body_line, names being those of the parameters."""
    at = line.find("$")
    while at >= 0:
        end = _marked_end(line, at)
        mark = line[at + 1:end]
        if mark not in IN_ALL_LINES and mark not in IN_BODIES and mark not in names:
            raise BadLine(at)
        at = line.find("$", end)
    check_own_names(line)


def filled_line(line, texts):
    """A line of a body with texts in the places of what stands behind `$`; all else stays."""
    pieces = []
    begin = 0
    at = line.find("$")
    while at >= 0:
        end = _marked_end(line, at)
        mark = line[at + 1:end]
        if mark in texts:
            pieces.append(line[begin:at] + texts[mark])
            begin = end
        at = line.find("$", end)
    return "".join(pieces) + line[begin:]


def substituted(line, variables):
    """A reached line with values in the places of `$(EXPR)`, and without `$$` and `$|`."""
    pieces = []
    begin = 0
    at = line.find("$")
    while at >= 0:
        text, end = _substitute(line, at, variables)
        pieces.append(line[begin:at] + text)
        begin = end
        at = line.find("$", end)
    return "".join(pieces) + line[begin:]


def numbered(line, number):
    """A reached line with made names in the places of own ones; number: of the call, 0 outside of calls."""
    pieces = []
    begin = 0
    for at in bare_part(line, loose_end)[0]:
        if line[at] != "@" or not _is_named(line, at):
            continue
        if number == 0:
            raise BadLine(at)
        end = row_end(line, at + 1, NAME_SIGNS, len(line))
        pieces.append(f"{line[begin:at]}{line[at + 1:end]}@{number}")
        begin = end
    return "".join(pieces) + line[begin:]


def _is_behind(line, at, sign):
    return at > 0 and line[at - 1] == sign


def _is_named(line, at):
    return row_end(line, at + 1, LETTERS, 1) > at + 1


def _marked_end(line, at):
    """The end of what a `$` stands in front of: a row of a name's signs, or one other sign."""
    end = row_end(line, at + 1, NAME_SIGNS, len(line))
    return end if end > at + 1 else at + 2


def _substitute(line, at, variables):
    """What becomes of the `$` at a column, and the column behind."""
    mark = line[at + 1:at + 2]
    if mark == "$":
        return "$", at + 2
    if mark == "|":
        return "", at + 2
    if mark != "(":
        raise BadLine(at)
    end = _closing_column(line, at + 2)
    if end == len(line):
        raise BadLine(at)
    # Blanks behind stay, so that an end that comes too early is told by the whole length.
    tree = tree_of(line[at + 2:end].lstrip(" "))
    return str(value_of(tree, variables)), end + 1


def _closing_column(line, start):
    """The column of the bracket that closes one in front of a column, or the length of the line."""
    still = 1
    at = start
    while at < len(line):
        if line[at] == "'":
            at = loose_end(line, at)
            continue
        if line[at] == "(":
            still += 1
        if line[at] == ")":
            still -= 1
        if still == 0:
            return at
        at += 1
    return at
