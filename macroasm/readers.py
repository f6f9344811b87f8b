"""What is read from the lines of an expansion, kept for lines that are reached again."""

from macroasm.brackets import split_operands
from macroasm.errors import BadLine
from macroasm.expressions import plain_of, tree_of, value_of
from macroasm.filling import value_pieces
from macroasm.lines import uncommented
from macroasm.scanning import head_parts


class Reader:
    """Reads lines and expressions; what is equal is read once. An error is not kept: it ends an expansion."""

    def __init__(self):
        self._bare = {}
        self._heads = {}
        self._operands = {}
        self._pieces = {}
        self._trees = {}
        self._values = {}

    def bare_line(self, line):
        """As uncommented."""
        if line not in self._bare:
            self._bare[line] = uncommented(line)
        return self._bare[line]

    def head_of_line(self, line):
        """As head_parts."""
        if line not in self._heads:
            self._heads[line] = head_parts(line)
        return self._heads[line]

    def operands_of_line(self, line):
        """As operands_of, for a line that is not too long."""
        if line not in self._operands:
            self._operands[line] = split_operands(line, self.head_of_line(line)[2])
        return self._operands[line]

    def value_of_text(self, text, variables):
        """The value of an expression that knows variables alone."""
        if text in self._values:
            return self._values[text]
        if text not in self._trees:
            self._trees[text] = tree_of(text)
        tree = self._trees[text]
        if tree.used:
            return value_of(tree, variables)
        self._values[text] = plain_of(tree)
        return self._values[text]

    def substituted(self, line, variables):
        """A reached line with values in the places of `$(EXPR)`, and without `$$` and `$|`."""
        if "$" not in line:
            return line
        if line not in self._pieces:
            self._pieces[line] = value_pieces(line)
        pieces, wrong = self._pieces[line]
        texts = []
        for text, expression in pieces:
            texts.append(text)
            if expression is not None:
                texts.append(str(self.value_of_text(expression, variables)))
        if wrong is not None:
            raise BadLine(wrong)
        return "".join(texts)
