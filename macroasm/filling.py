"""What is written into lines: arguments, values of expressions, numbers of calls."""

from macroasm.errors import BadLine
from macroasm.scanning import LETTERS, NAME_SIGNS, bare_columns, comment_column, loose_end, row_end

# What may stand behind a `$` without being the name of a parameter.
IN_ALL_LINES = ("(", "$", "|")
IN_BODIES = ("#", "@")


def check_own_names(line):
    """BadLine for an `@` that begins no own name; the line is looked at up to its comment."""
    if "@" not in line:
        return
    for at in bare_columns(line, "@", loose_end):
        if _is_behind(line, at, "$"):
            continue
        if at > 0 and line[at - 1] in NAME_SIGNS or not _is_named(line, at):
            raise BadLine(at)


def body_line(line):
    """A line of a body without its comment; the blanks at the ends stay."""
    return line[:comment_column(line, loose_end)]


def check_body_line(line, names):
    """BadLine for a `$` or an `@` that is not known in a line of body_line, names being those of the parameters."""
    at = line.find("$")
    while at >= 0:
        end = _marked_end(line, at)
        mark = line[at + 1:end]
        if mark not in IN_ALL_LINES and mark not in IN_BODIES and mark not in names:
            raise BadLine(at)
        at = line.find("$", end)
    check_own_names(line)


def body_pieces(line, names):
    """A line of body_line as pairs of a text and the mark behind it, the name of a parameter, `#` or `@`.

    The last pair has the mark "".
    """
    pieces = []
    begin = 0
    at = line.find("$")
    while at >= 0:
        end = _marked_end(line, at)
        mark = line[at + 1:end]
        if mark in IN_BODIES or mark in names:
            pieces.append((line[begin:at], mark))
            begin = end
        at = line.find("$", end)
    pieces.append((line[begin:], ""))
    return tuple(pieces)


def filled_line(pieces, texts):
    """The line of body_pieces with texts in the places of the marks."""
    if len(pieces) == 1:
        return pieces[0][0]
    return "".join([text + texts[mark] for text, mark in pieces])


def value_pieces(line):
    """A reached line as pairs of a text and the expression behind it, None without one.

    Beside them stands the column of the first `$` that nothing knows, None without one.
    """
    pieces = []
    begin = 0
    at = line.find("$")
    while at >= 0:
        mark = line[at + 1:at + 2]
        end = _closing_column(line, at + 2) + 1 if mark == "(" else at + 2
        if mark not in IN_ALL_LINES or end > len(line):
            return tuple(pieces), at
        # Blanks behind an expression stay, so that an end that comes too early is told by the whole length.
        expression = line[at + 2:end - 1].lstrip(" ") if mark == "(" else None
        pieces.append((line[begin:at] + ("$" if mark == "$" else ""), expression))
        begin = end
        at = line.find("$", end)
    pieces.append((line[begin:], None))
    return tuple(pieces), None


def numbered(line, number):
    """A reached line with made names in the places of own ones; number: of the call, 0 outside of calls."""
    if "@" not in line:
        return line
    pieces = []
    begin = 0
    for at in bare_columns(line, "@", loose_end):
        if not _is_named(line, at):
            continue
        if number == 0:
            raise BadLine(at)
        end = row_end(line, at + 1, NAME_SIGNS, len(line))
        pieces.append(f"{line[begin:at]}{line[at + 1:end]}@{number}")
        begin = end
    return "".join(pieces) + line[begin:]


def _is_behind(line, at, sign):
    return at > 0 and line[at - 1] == sign


def _is_named(line, at):
    return row_end(line, at + 1, LETTERS, 1) > at + 1


def _marked_end(line, at):
    """The end of what a `$` stands in front of: a row of a name's signs, or one other sign."""
    end = row_end(line, at + 1, NAME_SIGNS, len(line))
    return end if end > at + 1 else at + 2


def _closing_column(line, start):
    """The column of the bracket that closes one in front of a column, or the length of the line."""
    still = 1
    at = start
    while at < len(line):
        if line[at] == "'":
            at = loose_end(line, at)
            continue
        if line[at] == "(":
            still += 1
        if line[at] == ")":
            still -= 1
        if still == 0:
            return at
        at += 1
    return at
