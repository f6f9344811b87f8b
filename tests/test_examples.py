"""The examples of the document."""

import unittest

from macroasm.decoding import sweep
from macroasm.expressions import tree_of, value_of
from macroasm.fragments import Choice, Gap, Section
from macroasm.layout import Layout
from macroasm.linear import Linear
from macroasm.lines import tokens
from macroasm.linking import assembled, link
from macroasm.names import Names
from macroasm.session import Session
from macroasm.tables import Table


class Examples(unittest.TestCase):
    def test_tokens(self):
        self.assertEqual(list(tokens("a.b+0x1f ; c")), [("name", "a.b", 0), ("sign", "+", 3), ("number", 31, 4)])

    def test_trees(self):
        tree = tree_of("((a+1))*2 - -(b mod 3<<.x)")
        told = (tree.text, tree.used, len(tree), value_of(tree, {"a": 4, "b": 8, ".x": 2}))
        self.assertEqual(told, ("(a + 1) * 2 - -(b mod 3 << .x)", ("a", "b", ".x"), 16, 18))

    def test_folding(self):
        self.assertEqual(tree_of("x + 2 * 3 - (1 - 5)").folded().text, "x + 6 - (1 - 5)")

    def test_depth(self):
        self.assertEqual(tree_of("-(~a + b)").text, "-(~a + b)")

    def test_names(self):
        names = Names()
        full = [names.add_label("f"), names.add_label(".x"), names.add_equation("e", tree_of("2 * .x - 4 / 2 + f"))]
        told = (full, names.place, names.resolved()["e"].constant, names.resolved()["e"].pairs)
        self.assertEqual(told, (["f", "f.x", "e"], ("", "f"), -2, (("f", 1), ("f.x", 2))))

    def test_tables(self):
        load = ("load", (((1,), (("n", 0),)), ((2,), ("u1",)), ((3, 0), ("s2",))))
        table = Table(load, ("jump", (((4,), ("r1",)), ((5,), ("r4",)))))
        told = (table("load", (-2,)), list(sweep(table, (2, 7, 4, 254, 1), base=10)))
        self.assertEqual(told, (
            (3, 0, 254, 255), [(0, "load", 1, (7,)), (2, "jump", 0, (12,)), (4, "load", 0, (0,))],
        ))

    def test_layouts(self):
        table = Table(("jump", (((1,), ("r1",)), ((2,), ("r4",)))))
        section = Section("main", Choice("jump", (Linear.single("far"),)), Gap(128))
        layout = Layout((section,), {"far": ("main", 2)}, table, base=16)
        self.assertEqual((layout("far"), layout.form_of("main", 0)), (149, 1))
        self.assertEqual((layout.cells_of("main", 0), list(layout.passes())), ((2, 128, 0, 0, 0), [(0,), (1,)]))

    def test_listings(self):
        table = Table(("jump", (((1,), ("r1",)),)))
        whole = assembled("f: jump f\nbyte 7, f", table)
        self.assertEqual(link((whole,), table, base=16).listing(), "section main 16\n16: 1 254 ; main:1\n18: 7 16 ; main:2")


class Readme(unittest.TestCase):
    """What README.md shows."""

    TABLE = Table(("jump", (((1,), ("r1",)), ((2,), ("r4",)))))

    def test_linking(self):
        one = assembled("f: jump far\nbyte 7, f\nexport f\nimport far", self.TABLE, name="one")
        two = assembled("space 2, 255\nfar: byte 1\nexport far", self.TABLE, name="two")
        image = link((one, two), self.TABLE, base=16)
        self.assertEqual(image.listing().split("\n"), [
            "section main 16", "16: 1 4 ; one:1", "18: 7 16 ; one:2", "20: 255 255 ; two:1", "22: 1 ; two:2",
        ])
        self.assertEqual((image.value("far"), image.uses_of("f")), (22, (18,)))

    def test_sessions(self):
        commands = ("text one\nf: jump f\nexport f", "base 16", "value f", "origin 17", "undo", "value f")
        self.assertEqual(Session(self.TABLE).run(commands), ["ok", "ok", "16", "one:1", "ok", "0"])
