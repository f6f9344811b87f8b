"""Where the parts of a line end: names, numbers, strings, characters and signs.

A column at which no line of tokens can go on is told by BadLine.
"""

from macroasm.errors import BadLine, TooLarge

LETTERS = "abcdefghijklmnopqrstuvwxyzABCDEFGHIJKLMNOPQRSTUVWXYZ_"
DIGITS = "0123456789"
FIRST_DIGITS = "123456789"
HEX_DIGITS = "0123456789abcdefABCDEF"
BINARY_DIGITS = "01"
NAME_SIGNS = "abcdefghijklmnopqrstuvwxyzABCDEFGHIJKLMNOPQRSTUVWXYZ_0123456789"
BARRED_BEHIND = "abcdefghijklmnopqrstuvwxyzABCDEFGHIJKLMNOPQRSTUVWXYZ_0123456789@"
# The signs of two characters, and those of one in a row.
LONG_SIGNS = {
    "||": True, "&&": True, "==": True, "!=": True, "<=": True, ">=": True, "<<": True, ">>": True, "..": True,
}
SHORT_SIGNS = "|^&<>+-*/~!(){},:="
ESCAPED = ("\\", "\"", "'", "n")
MOST_IN_LINE = 400
MOST_IN_NAME = 40
MOST_IN_NUMBER = 40
MOST_IN_MADE = 9
MOST_IN_PATH = 8
LARGEST = 2 ** 64


def check_line(line):
    """BadLine(0) for what is no line, TooLarge for one that is too long."""
    if not isinstance(line, str) or "\n" in line:
        raise BadLine(0)
    if len(line) > MOST_IN_LINE:
        raise TooLarge(MOST_IN_LINE)


def row_end(line, at, signs, most):
    """The end of the longest row of these signs that begins at a column."""
    row = line[at:at + most]
    return at + len(row) - len(row.lstrip(signs))


def blanks_end(line, at):
    """The first column from this one on that is no blank."""
    if line[at:at + 1] != " ":
        return at
    return row_end(line, at, " ", len(line))


def name_end(line, at):
    """The end of the longest name that begins at a column, or this column."""
    # The empty text behind the end of a line is among the digits, too.
    if line[at:at + 1] in DIGITS:
        return at
    return row_end(line, at, NAME_SIGNS, MOST_IN_NAME)


def made_end(line, at):
    """The end of the `@` and the number of a made name, or the column itself."""
    if line[at:at + 1] != "@" or row_end(line, at + 1, FIRST_DIGITS, 1) == at + 1:
        return at
    return row_end(line, at + 1, DIGITS, MOST_IN_MADE)


def sign_end(line, at):
    """The end of one character between quotes, perhaps an escape."""
    if line[at] != "\\":
        return at + 1
    if line[at + 1:at + 2] in ESCAPED:
        return at + 2
    raise BadLine(at + 1)


def quoted_end(line, at):
    """The end of the string or the character that begins at a column."""
    if line[at] == "'":
        return _character_end(line, at)
    end = at + 1
    while end < len(line) and line[end] != "\"":
        end = sign_end(line, end)
    if end == len(line):
        raise BadLine(end)
    return end + 1


def _character_end(line, at):
    if line[at + 1:at + 2] in ("", "'"):
        raise BadLine(at + 1)
    end = sign_end(line, at + 1)
    if line[end:end + 1] != "'":
        raise BadLine(end)
    return end + 1


def loose_end(line, at):
    """As quoted_end; a quote with which nothing begins stands for itself."""
    try:
        return quoted_end(line, at)
    except BadLine:
        return at + 1


def has_quotes(text):
    """Whether a string or a character may stand in a text."""
    return "\"" in text or "'" in text


def comment_column(line, end_of_quoted):
    """The column of the comment, or the length of the line."""
    if not has_quotes(line):
        at = line.find(";")
        return len(line) if at < 0 else at
    at = 0
    while at < len(line) and line[at] != ";":
        at = end_of_quoted(line, at) if line[at] in "\"'" else at + 1
    return at


def bare_columns(line, signs, end_of_quoted):
    """The columns of signs outside of strings and characters and in front of the comment."""
    columns = []
    at = 0
    while at < len(line) and line[at] != ";":
        if line[at] in "\"'":
            at = end_of_quoted(line, at)
            continue
        if line[at] in signs:
            columns.append(at)
        at += 1
    return columns


def unescaped(text):
    """What stands between quotes, with its escapes read."""
    signs = []
    at = 0
    while at < len(text):
        end = sign_end(text, at)
        signs.append("\n" if text[at:end] == "\\n" else text[end - 1])
        at = end
    return "".join(signs)


def head_parts(line):
    """The label of a line, its word, and the column behind both."""
    at = blanks_end(line, 0)
    end = name_end(line, at)
    stop = _label_end(line, at, end)
    if stop == at:
        return "", line[at:end], end
    start = blanks_end(line, stop + 1)
    behind = name_end(line, start)
    return line[at:stop], line[start:behind], behind


def _label_end(line, at, end):
    """The end of the label that begins at a column, or this column; end: that of the name there."""
    if end > at:
        end = made_end(line, end)
    elif line[at:at + 1] in (".", "@"):
        end = name_end(line, at + 1)
        if end == at + 1:
            return at
    return end if line[end:end + 1] == ":" else at


def token_at(line, at, made):
    """The sort, the value and the end of the token that begins at a column."""
    sign = line[at]
    if sign in LETTERS:
        return _path_at(line, at, made)
    if sign in DIGITS:
        return _number_at(line, at)
    if sign in "\"'":
        return _quoted_at(line, at)
    if line[at:at + 2] in LONG_SIGNS:
        return "sign", line[at:at + 2], at + 2
    if sign in SHORT_SIGNS:
        return "sign", sign, at + 1
    if sign == ".":
        return _prefixed_at(line, at, "local")
    if sign == "@" and not made:
        return _prefixed_at(line, at, "own")
    raise BadLine(at)


def _check_behind(line, end):
    sign = line[end:end + 1]
    if sign == "" or sign == " ":
        return
    if sign in BARRED_BEHIND:
        raise BadLine(end)
    if sign == "." and line[end + 1:end + 2] != ".":
        raise BadLine(end + 1)


def _part_end(line, at, made):
    end = name_end(line, at)
    if end == at:
        raise BadLine(at)
    if not made or line[end:end + 1] != "@":
        return end
    behind = made_end(line, end)
    if behind == end:
        raise BadLine(end + 1)
    return behind


def _path_at(line, at, made):
    end = _part_end(line, at, made)
    many = 1
    while many < MOST_IN_PATH and line[end:end + 1] == "." and line[end + 1:end + 2] != ".":
        end = _part_end(line, end + 1, made)
        many += 1
    _check_behind(line, end)
    text = line[at:end]
    return "sign" if text == "mod" else "name", text, end


def _prefixed_at(line, at, sort):
    end = name_end(line, at + 1)
    if end == at + 1:
        raise BadLine(end)
    _check_behind(line, end)
    return sort, line[at:end], end


def _number_at(line, at):
    start, signs, base = at, DIGITS, 10
    if line[at:at + 2] == "0x":
        start, signs, base = at + 2, HEX_DIGITS, 16
    if line[at:at + 2] == "0b":
        start, signs, base = at + 2, BINARY_DIGITS, 2
    end = row_end(line, start, signs, MOST_IN_NUMBER)
    if end == start:
        raise BadLine(end)
    _check_behind(line, end)
    value = int(line[start:end], base)
    if value > LARGEST:
        raise TooLarge(LARGEST)
    return "number", value, end


def _quoted_at(line, at):
    end = quoted_end(line, at)
    text = unescaped(line[at + 1:end - 1])
    if line[at] == "'":
        return "character", ord(text), end
    return "string", text, end
