"""Brackets and the commas outside of them."""

from macroasm.errors import BadLine
from macroasm.scanning import bare_columns, comment_column, has_quotes, quoted_end

CLOSED_BY = {"(": ")", "{": "}"}


def has_brackets(text):
    """Whether a bracket stands in a text."""
    return "(" in text or ")" in text or "{" in text or "}" in text


def bracket_ends(line):
    """A dict from the column of each opening bracket to that of the one that closes it."""
    ends = {}
    if not has_brackets(line) and not has_quotes(line):
        return ends
    waiting = []
    for at in bare_columns(line, "(){}", quoted_end):
        if line[at] in "({":
            waiting.append(at)
        elif not waiting or CLOSED_BY[line[waiting[-1]]] != line[at]:
            raise BadLine(at)
        else:
            ends[waiting.pop()] = at
    if waiting:
        raise BadLine(len(line))
    return ends


def split_operands(line, start):
    """The operands that stand from a column on, up to the comment; no bracket stands in front of it."""
    ends = bracket_ends(line)
    stop = comment_column(line, quoted_end)
    if line[start:stop].strip(" ") == "":
        return ()
    if not ends and not has_quotes(line):
        return tuple([operand.strip(" ") for operand in line[start:stop].split(",")])
    operands = []
    begin = start
    behind = start
    for at in bare_columns(line, ",({", quoted_end):
        if at < behind:
            continue
        if at in ends:
            behind = ends[at] + 1
        else:
            operands.append(line[begin:at].strip(" "))
            begin = at + 1
    operands.append(line[begin:stop].strip(" "))
    return tuple(operands)
