"""The lines of a program, its directives and the blocks that they make."""

from macroasm.errors import BadBlock, TooLarge
from macroasm.scanning import MOST_IN_LINE, head_parts

OPENING = ("macro", "repeat", "if", "ifsame")
CLOSED_BY = {"macro": "endmacro", "repeat": "endrepeat", "if": "endif", "ifsame": "endif"}
BARE = ("endmacro", "endrepeat", "endif", "else")
DIRECTIVES = ("macro", "endmacro", "repeat", "endrepeat", "if", "ifsame", "else", "endif", "set")
MOST_SIGNS = 20000
MOST_DEPTH = 20


def program_lines(text):
    """The lines of a program; TooLarge for a text or a line that is too long."""
    if len(text) > MOST_SIGNS:
        raise TooLarge(MOST_SIGNS)
    lines = text.split("\n")
    check_lengths(lines)
    return tuple(lines)


def check_lengths(lines):
    """TooLarge if a line is too long."""
    for line in lines:
        if len(line) > MOST_IN_LINE:
            raise TooLarge(MOST_IN_LINE)


def plan_of(lines, first=1, *, in_macro=False):
    """The Plan of lines; BadBlock where blocks do not fit, first being the number of the first of the lines."""
    finder = BlockFinder(in_macro)
    words = []
    for at, line in enumerate(lines):
        label, word, behind = head_parts(line)
        if word not in DIRECTIVES:
            words.append("")
            continue
        words.append(word)
        if label != "" or not _is_well_written(line, word, behind) or not finder.takes(word, at):
            raise BadBlock(first + at)
    if finder.waiting:
        raise BadBlock(first + finder.waiting[-1].begin)
    return Plan(tuple(words), finder.found)


def _is_well_written(line, word, behind):
    if line[behind:behind + 1] == "$":
        return False
    operands = line[behind:].strip(" ")
    return word not in BARE or operands == "" or operands.startswith(";")


class Block:
    """A block: its word, and the indexes of its first line, its last one and its else, if it has one."""

    def __init__(self, word, begin):
        self.word = word
        self.begin = begin
        self.middle = None
        self.end = None


class BlockFinder:
    """Finds the blocks of lines, directive by directive."""

    def __init__(self, in_macro):
        self.waiting = []
        self.found = []
        self._in_macro = in_macro

    def takes(self, word, at):
        """Go on with a directive; whether it may stand there."""
        if word in OPENING:
            return self._opens(word, at)
        if word == "set":
            return True
        if not self.waiting:
            return False
        block = self.waiting[-1]
        if word == "else":
            return self._halves(block, at)
        if CLOSED_BY[block.word] != word:
            return False
        block.end = at
        self.waiting.pop()
        return True

    def _opens(self, word, at):
        is_inside = self._in_macro or len(self.waiting) > 0
        if word == "macro" and is_inside or len(self.waiting) == MOST_DEPTH:
            return False
        block = Block(word, at)
        self.waiting.append(block)
        self.found.append(block)
        return True

    def _halves(self, block, at):
        if CLOSED_BY[block.word] != "endif" or block.middle is not None:
            return False
        block.middle = at
        return True


class Plan:
    """The directives of lines, by their indexes, the blocks, and where the directives lead.

    A repeat leads to its end, an if or an else behind the lines that are left out, a macro behind its end.
    """

    def __init__(self, words, blocks):
        self.words = words
        self.blocks = blocks
        self.targets = {}
        for block in blocks:
            self._lead(block)

    def _lead(self, block):
        if block.word == "repeat":
            self.targets[block.begin] = block.end
        elif block.middle is None:
            self.targets[block.begin] = block.end + 1
        else:
            self.targets[block.begin] = block.middle + 1
            self.targets[block.middle] = block.end + 1
