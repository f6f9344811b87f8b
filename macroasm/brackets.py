"""Brackets and the commas outside of them."""

from macroasm.errors import BadLine
from macroasm.scanning import bare_part, quoted_end

CLOSED_BY = {"(": ")", "{": "}"}


def bracket_ends(line, start=0):
    """A dict from the column of each opening bracket to that of the one that closes it."""
    ends = {}
    waiting = []
    for at in _bare_from(line, start):
        if line[at] in "({":
            waiting.append(at)
        elif line[at] in ")}":
            if not waiting or CLOSED_BY[line[waiting[-1]]] != line[at]:
                raise BadLine(at)
            ends[waiting.pop()] = at
    if waiting:
        raise BadLine(len(line))
    return ends


def split_operands(line, start=0):
    """The operands that stand from a column on, up to the comment."""
    ends = bracket_ends(line, start)
    stop = bare_part(line, quoted_end)[1]
    if line[start:stop].strip(" ") == "":
        return ()
    operands = []
    begin = start
    behind = start
    for at in _bare_from(line, start):
        if at < behind:
            continue
        if at in ends:
            behind = ends[at] + 1
        elif line[at] == ",":
            operands.append(line[begin:at].strip(" "))
            begin = at + 1
    operands.append(line[begin:stop].strip(" "))
    return tuple(operands)


def _bare_from(line, start):
    return [at for at in bare_part(line, quoted_end)[0] if at >= start]
