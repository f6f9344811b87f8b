"""Assembling, linking and steps: [61], [62], [66]."""

from assembling_helpers import TABLE, ObjectCase, made
from macroasm.assembling import object_of
from macroasm.errors import (
    BadBlock, BadName, BadNumber, BadObject, BadOperands, Cycle, NoInstruction, NoName, OutOfRange, Taken, TooLarge,
        Trouble,
    Unresolved,
)
from macroasm.expanding import expanded
from macroasm.linking import assembled, explains, link, steps
from macroasm.objecttexts import read_object
from macroasm.tables import Table

FAR = "jump b\nspace 124\njump c\nb: space 123\njump d\nc: space 128\nd: load 300\nload 300"


def enough(text, base=0):
    """The steps of a text."""
    return list(steps((made(text),), TABLE, base=base))


class Assembled(ObjectCase):
    def test_plain_lines_of_the_text(self):
        text = "macro two p\nbyte $p\n@x: byte @x\nendmacro\nf: two 7\nrepeat 2\ntwo 8\nendrepeat\nexport f"
        whole = assembled(text, TABLE, name="here")
        self.assertTrue(whole == object_of(expanded(text, source="here"), TABLE))
        self.assertEqual(whole.labels, ("1!x@1", "1!x@2", "1!x@3", "f"))
        self.assertEqual([str(one) for one in whole.origins_of("main")][:3],
            ["here:2<here:5", "here:3<here:5", "here:2<here:7<here:6"])
        self.assertEqual(str(assembled("halt", TABLE).origins_of("main")[0]), "main:1")
        self.assertTrue(assembled("f: halt\nbyte f", TABLE) == made("f: halt\nbyte f"))

    def test_errors_of_expanding(self):
        self.refused(BadName, ("1",), assembled, "x" * 401, TABLE, name="1")
        self.refused(BadName, ("a" * 21,), assembled, "", TABLE, name="a" * 21)
        self.refused(TooLarge, (20000,), assembled, "\n" * 20001, TABLE)
        self.refused(TooLarge, (400,), assembled, "x" * 401, TABLE)
        self.refused(BadBlock, (2,), assembled, "halt\nendif", TABLE)
        for text, origin, error in (
            ("macro m p\nbyte $p\nendmacro\nq\nm", "here:5", BadOperands), ("q\nset a = x", "here:2", NoName),
            ("repeat 2\nq\nendrepeat", "here:2<here:1", NoInstruction),
            ("macro m\nbyte 1,\nendmacro\n\nm", "here:2<here:5", BadOperands),
            ("halt\nbyte x", "here:2", NoName),
        ):
            with self.assertRaises(Trouble) as caught:
                assembled(text, TABLE, name="here")
            self.assertEqual((str(caught.exception.origin), type(caught.exception.cause)), (origin, error))

    def test_nothing(self):
        self.assertEqual((assembled("", TABLE).sections, assembled("; only\n\n", TABLE).sections), ((), ()))


class Linked(ObjectCase):
    def test_one_and_several(self):
        one, two = made("f: jump g\nimport g\nexport f", "a"), made("g: word f, 5\nexport g\nimport f", "b")
        found = link((one, two), TABLE, base=500)
        self.assertEqual((found.sections, found.exports), ((("main", 500, (1, 0, 244, 1, 5, 0)),), ("f", "g")))
        self.assertEqual(link((two, one), TABLE, base=500).sections, (("main", 500, (248, 1, 5, 0, 1, 250)),))
        self.assertEqual(link((made("f: jump f"),), TABLE).sections, (("main", 0, (1, 254)),))

    def test_bases(self):
        whole = made("f: jump f\ng: halt\nexport g")
        for base in (0, 1, 255, 2 ** 32):
            found = link((whole,), TABLE, base=base)
            self.assertEqual((found.base, found.sections, found.value("g")),
                (base, (("main", base, (1, 254, 8)),), base + 2))
        self.assertEqual(link((whole,), TABLE).base, 0)
        for wrong in (-1, 2 ** 32 + 1, None, True, "0", (), []):
            self.refused(BadNumber, (wrong,), link, (whole,), TABLE, base=wrong)

    def test_objects_that_are_wrong(self):
        for wrong in (None, (), [made("halt")], made("halt"), (made("halt"),) * 21):
            self.refused(BadObject, (None,), link, wrong, TABLE, base=-1)
        self.refused(BadObject, (1,), link, (made("import x\nbyte x"), 5), TABLE, base=-1)

    def test_unresolved(self):
        one, two = made("import z, c\nbyte z"), made("import b, z, a\nexport c\nc:")
        self.refused(Unresolved, (("z",),), link, (made("import z"),), TABLE)
        self.refused(Unresolved, (("c", "z"),), link, (one,), TABLE, base=-1)
        self.refused(Unresolved, (("a", "b", "z"),), link, (one, two), TABLE)

    def test_the_order_of_errors(self):
        taken = (made("x:\nexport x\nimport y"), made("x:\nexport x"))
        self.refused(Taken, ("x",), link, taken, TABLE, base=-1)
        ring = (made("import a, z\nexport b\nb = a"), made("import b\nexport a\na = b"))
        self.refused(Cycle, (("a", "b"),), link, ring, TABLE, base=-1)
        other = Table(("halt", (((1,), ()),)))
        whole = made("byte 1\njump 5")
        self.refused(BadNumber, (-1,), link, (whole,), other, base=-1)
        self.refused(NoInstruction, ("jump",), link, (whole,), other)
        self.refused(BadOperands, (1,), link, (whole,), Table(("jump", (((1,), ()),))))
        self.refused(NoInstruction, ("jump",), link, (made("space 65536\nhalt\njump 1"),), other)
        self.refused(NoInstruction, ("if",), link, (read_object("pieces 1\nsection main\ndo t:1 if"),), TABLE)

    def test_errors_of_the_layout(self):
        self.refused(TooLarge, (300,), link, (made("\n".join(["halt"] * 301)),), TABLE)
        self.refused(TooLarge, (65536,), link, (made("space 65536\nload 40000"),), TABLE)
        self.refused(OutOfRange, ("main", 1), link, (made("byte 1\nload 40000"),), TABLE)
        self.refused(OutOfRange, ("s", 0), link, (made("byte 1\nsection s\nf: byte f + 255"),), TABLE)
        self.refused(OutOfRange, ("main", 2), link, (made("f: byte f + 300\nhalt\nload 40000"),), TABLE)
        self.refused(OutOfRange, ("main", 1), link, (made("import e\nhalt\nbyte e"), made("e = 256\nexport e")), TABLE)

    def test_the_table_of_linking_counts(self):
        whole = made("f: jump f")
        other = Table(("jump", (((9, 9), ("u1",)),)))
        self.assertEqual(link((whole,), other, base=3).sections, (("main", 3, (9, 9, 3)),))


class Steps(ObjectCase):
    def test_one_by_one(self):
        found = enough(FAR)
        self.assertEqual(found, [("main", 4, 1), ("main", 2, 1), ("main", 0, 1), ("main", 6, 2), ("main", 7, 2)])
        self.assertEqual(enough("f: jump f\nload 0"), [])
        self.assertEqual(enough("section s\nload 5\nsection main\nload 300\nsection s\nload 256"),
            [("s", 0, 1), ("s", 1, 2), ("main", 0, 2)])

    def test_the_base_is_0_at_first(self):
        whole = made("space 255\nf: load f")
        self.assertEqual(list(steps((whole,), TABLE)), [("main", 1, 1)])
        self.assertEqual(list(steps((whole,), TABLE, base=1)), [("main", 1, 2)])
        self.assertIs(explains((whole,), TABLE, (("main", 1, 1),)), True)
        self.assertIs(explains((whole,), TABLE, (("main", 1, 1),), base=1), False)

    def test_what_does_not_fit_in_the_end(self):
        self.assertEqual(enough("load 40000\nhalt\nf: byte f + 300"), [("main", 0, 2)])
        self.assertEqual(enough("f: move 1, 70000\nmove 1, 300"), [("main", 0, 1), ("main", 1, 1)])

    def test_they_explain(self):
        whole = made(FAR)
        rows = tuple(enough(FAR))
        self.assertIs(explains((whole,), TABLE, rows), True)
        self.assertIs(explains((whole,), TABLE, (rows[4], *rows[:4])), True)
        self.assertIs(explains((whole,), TABLE, (*rows[:2], rows[4], rows[3], rows[2])), True)

    def test_what_does_not_explain(self):
        whole = made(FAR)
        rows = tuple(enough(FAR))
        for wrong in (
            (), rows[:4], rows[1:], (*rows, rows[0]), (*rows, ("main", 1, 1)), (*rows, ("main", 6, 2)),
            (rows[1], rows[0], *rows[2:]),
            (("main", 4, 0), *rows), (*rows[:3], ("main", 6, 1), *rows[3:]), (*rows[:4], ("main", 7, 3)),
            (*rows[:4], ("s", 7, 2)),
            (*rows[:4], ("main", 7, 2, 0)), (*rows[:4], ("main", 7)), (*rows[:4], ["main", 7, 2]),
            (*rows[:4], (None, 7, 2)), (*rows[:4], ("main", "7", 2)),
            (*rows[:4], ("main", 7, None)), (*rows[:4], None), (*rows[:4], (["main"], 7, 2)),
            (*rows[:4], ("main", [7], 2)), (*rows[:4], ("main", 9, 2)),
            (("main", 4, True), *rows[1:]), (*rows[:2], ("main", False, 1), *rows[3:]), (*rows[:4], ("main", -1, 2)),
            list(rows), None, 5, True, "", {}, [], rows[0],
        ):
            self.assertIs(explains((whole,), TABLE, wrong), False, wrong)

    def test_a_step_over_forms_that_do_not_fit(self):
        whole = made("load 300")
        self.assertIs(explains((whole,), TABLE, (("main", 0, 2),)), True)
        self.assertIs(explains((whole,), TABLE, (("main", 0, 1), ("main", 0, 2))), False)
        whole = made("load 40000")
        self.assertIs(explains((whole,), TABLE, (("main", 0, 2),)), True)
        self.assertIs(explains((whole,), TABLE, ()), False)
        self.assertIs(explains((whole,), TABLE, (("main", 0, 2), ("main", 0, 2))), False)

    def test_nothing_to_explain(self):
        self.assertIs(explains((made("f: jump f"),), TABLE, ()), True)
        self.assertIs(explains((made("x = 1"),), TABLE, ()), True)
        self.assertIs(explains((made("jump 5"),), Table(("jump", (((1,), ("u1",)),))), ()), True)
        self.assertIs(explains((made("jump 500"),), Table(("jump", (((1,), ("u1",)),))), ()), True)

    def test_several_objects_and_bases(self):
        objects = (made("import f\nload f\nload e\nimport e"),
            made("section s\nload 256\nf:\ne = f + 100\nexport f, e"))
        self.assertEqual(list(steps(objects, TABLE)), [("main", 0, 1), ("main", 1, 1), ("s", 0, 2)])
        self.assertEqual(list(steps(objects, TABLE, base=200)), [("main", 0, 1), ("main", 1, 2), ("s", 0, 2)])
        self.assertIs(explains(objects, TABLE, (("main", 0, 1), ("main", 1, 2), ("s", 0, 2)), base=200), True)
        self.assertIs(explains(objects, TABLE, (("main", 0, 1), ("main", 1, 2), ("s", 0, 2))), False)

    def test_errors(self):
        def first_step(objects, table, base=0):
            return list(steps(objects, table, base=base))

        def told(objects, table, base=0):
            return explains(objects, table, 5, base=base)

        half = "space 65533"
        for call in (first_step, told):
            self.refused(BadObject, (None,), call, (), TABLE)
            self.refused(BadObject, (0,), call, (5,), TABLE)
            self.refused(Taken, ("x",), call, (made("x:\nexport x"), made("x:\nexport x")), TABLE)
            self.refused(Unresolved, (("x",),), call, (made("import x"),), TABLE, -1)
            self.refused(BadNumber, (-1,), call, (made("halt"),), TABLE, -1)
            self.refused(NoInstruction, ("jump",), call, (made("jump 1"),), Table())
            self.refused(BadOperands, (1,), call, (made("jump 1"),), Table(("jump", (((1,), ()),))))
            self.refused(TooLarge, (300,), call, (made("\n".join(["halt"] * 301)),), TABLE)
            self.refused(TooLarge, (65536,), call, (made(half + "\nload 300"),), TABLE)
        generator = steps((), TABLE)
        self.refused(BadObject, (None,), next, generator)
