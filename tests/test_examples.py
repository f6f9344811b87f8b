"""The examples of the document."""

import unittest

from macroasm.expressions import tree_of, value_of
from macroasm.lines import tokens


class Examples(unittest.TestCase):
    def test_tokens(self):
        self.assertEqual(list(tokens("a.b+0x1f ; c")), [("name", "a.b", 0), ("sign", "+", 3), ("number", 31, 4)])

    def test_trees(self):
        tree = tree_of("((a+1))*2 - -(b mod 3<<.x)")
        told = (tree.text, tree.used, len(tree), value_of(tree, {"a": 4, "b": 8, ".x": 2}))
        self.assertEqual(told, ("(a + 1) * 2 - -(b mod 3 << .x)", ("a", "b", ".x"), 16, 18))

    def test_folding(self):
        self.assertEqual(tree_of("x + 2 * 3 - (1 - 5)").folded().text, "x + 6 - (1 - 5)")

    def test_depth(self):
        self.assertEqual(tree_of("-(~a + b)").text, "-(~a + b)")
