"""The lines of a program, its directives and the blocks that they make."""

from macroasm.errors import BadBlock, TooLarge
from macroasm.scanning import MOST_IN_LINE, head_parts

OPENING = ("macro", "repeat", "if", "ifsame")
CLOSED_BY = {"macro": "endmacro", "repeat": "endrepeat", "if": "endif", "ifsame": "endif"}
BARE = ("endmacro", "endrepeat", "endif", "else")
DIRECTIVES = ("macro", "endmacro", "repeat", "endrepeat", "if", "ifsame", "else", "endif", "set")
MOST_SIGNS = 20000
MOST_DEPTH = 20


def program_lines(text):
    """The lines of a program; TooLarge for a text or a line that is too long."""
    if len(text) > MOST_SIGNS:
        raise TooLarge(MOST_SIGNS)
    lines = text.split("\n")
    check_lengths(lines)
    return tuple(lines)


def check_lengths(lines):
    """TooLarge if a line is too long."""
    for line in lines:
        if len(line) > MOST_IN_LINE:
            raise TooLarge(MOST_IN_LINE)


def directive_of(line):
    """The word of a line that is a directive, `""` for any other line."""
    word = head_parts(line)[1]
    return word if word in DIRECTIVES else ""


def found_blocks(lines, first=1, *, in_macro=False):
    """The Block of each block, by first lines; first: the number of the first of the lines."""
    finder = BlockFinder(in_macro)
    for at, line in enumerate(lines):
        word = directive_of(line)
        if word != "" and not (_is_well_written(line) and finder.takes(word, at)):
            raise BadBlock(first + at)
    if finder.waiting:
        raise BadBlock(first + finder.waiting[-1].begin)
    return finder.found


def _is_well_written(line):
    label, word, behind = head_parts(line)
    if label != "" or line[behind:behind + 1] == "$":
        return False
    operands = line[behind:].strip(" ")
    return word not in BARE or operands == "" or operands.startswith(";")


class Block:
    """A block: its word, and the indexes of its first line, its last one and its else, if it has one."""

    def __init__(self, word, begin):
        self.word = word
        self.begin = begin
        self.middle = None
        self.end = None


class BlockFinder:
    """Finds the blocks of lines, directive by directive."""

    def __init__(self, in_macro):
        self.waiting = []
        self.found = []
        self._in_macro = in_macro

    def takes(self, word, at):
        """Go on with a directive; whether it may stand there."""
        if word in OPENING:
            return self._opens(word, at)
        if word == "set":
            return True
        if not self.waiting:
            return False
        block = self.waiting[-1]
        if word == "else":
            return self._halves(block, at)
        if CLOSED_BY[block.word] != word:
            return False
        block.end = at
        self.waiting.pop()
        return True

    def _opens(self, word, at):
        is_inside = self._in_macro or len(self.waiting) > 0
        if word == "macro" and is_inside or len(self.waiting) == MOST_DEPTH:
            return False
        block = Block(word, at)
        self.waiting.append(block)
        self.found.append(block)
        return True

    def _halves(self, block, at):
        if CLOSED_BY[block.word] != "endif" or block.middle is not None:
            return False
        block.middle = at
        return True


class Plan:
    """The directives of lines, by their indexes, and where they lead.

    A repeat leads to its end, an if or an else behind the lines that are left out, a macro behind its end.
    """

    def __init__(self, lines, blocks):
        self.words = tuple([directive_of(line) for line in lines])
        self.targets = {}
        for block in blocks:
            self._lead(block)

    def _lead(self, block):
        if block.word == "repeat":
            self.targets[block.begin] = block.end
        elif block.middle is None:
            self.targets[block.begin] = block.end + 1
        else:
            self.targets[block.begin] = block.middle + 1
            self.targets[block.middle] = block.end + 1
