"""Errors of assembling and their order: [57]."""

from assembling_helpers import TABLE, ObjectCase, form, lines_of, made
from helpers import LIMIT
from macroasm.assembling import object_of
from macroasm.errors import (
    BadBlock, BadLine, BadName, BadNumber, BadOperands, BadShift, Cycle, DividedByZero, NoInstruction, NoName, NotPlain,
    Taken, TooLarge, Trouble,
)
from macroasm.origins import Origin

# An error of each step, without the scope that is open at the end.
STEPS = (
    ("jump", BadOperands, (0,)),
    ("byte nothing", NoName, ("nothing",)),
    ("r = r", Cycle, (("r",),)),
    ("w = 1 / 0", DividedByZero, ()),
    ("space -1", BadNumber, (-1,)),
    ("byte 256", BadNumber, (256,)),
)


class Lines(ObjectCase):
    def test_errors_of_lines(self):
        self.troubled("main:2", BadLine, (5,), "halt\nbyte @x")
        self.troubled("main:2", BadLine, (0,), "halt\n\nbyte @x")
        self.troubled("main:1", BadLine, (0,), "  ; nothing\n@")
        self.troubled("main:1", TooLarge, (400,), "byte 1" + " " * 395)
        self.troubled("main:1", TooLarge, (LIMIT,), f"byte {LIMIT + 1}")
        self.troubled("main:1", BadLine, (6,), "jump (\nq")

    def test_what_is_no_line(self):
        for value in (None, 5, [], {}, ("halt",), "a\nb"):
            with self.assertRaises(Trouble) as caught:
                object_of((("halt", Origin(("a", 1))), (value, Origin(("b", 2)))), TABLE)
            self.assertEqual((str(caught.exception.origin), type(caught.exception.cause)), ("b:2", BadLine))

    def test_instructions(self):
        self.troubled("main:2", NoInstruction, ("q",), "halt\nq 1 +\nr")
        self.troubled("main:1", NoInstruction, ("macro",), "macro x")
        self.troubled("main:1", NoInstruction, ("Byte",), "Byte 1")
        self.troubled("main:1", NoInstruction, ("q",), "byte: q")

    def test_operands(self):
        for line, index in (
            ("jump", 0), ("jump 1, 2", 1), ("jump 1 +, 2", 0), ("move 1", 1), ("move 1 +", 0), ("move 1, 2 +, 3", 1),
            ("move 1, 2, 3 +", 2), ("halt 1", 0), ("halt ,", 0), ("move ,", 0), ("move 1,", 1), ("byte", 0),
            ("byte 1, +", 1),
            ("jump \"a\"", 0), ("text a", 0), ("section a@1", 0), ("export a@1", 0), ("import a, .x", 1), ("x = +", 1),
            (".x = +", 1), ("byte = +", 1), ("endscope 1", 0), ("align 1, 2, 3", 2),
        ):
            self.troubled("main:2", BadOperands, (index,), "halt\n" + line)

    def test_labels(self):
        self.troubled("main:1", BadName, ("byte",), "byte: halt")
        self.troubled("main:1", BadName, (".byte",), ".byte: halt")
        self.troubled("main:1", NoName, (".x",), ".x: halt")
        self.troubled("main:3", NoName, (".x",), "f:\nscope s\n.x: halt")
        self.troubled("main:3", Taken, ("f.x",), "f:\n.x:\n.x: halt")
        self.troubled("main:2", Taken, ("f",), "f:\nf: halt")
        self.troubled("main:2", Taken, ("q",), "import q\nq: halt")
        self.troubled("main:2", Taken, ("q",), "q = 1\nq: halt")

    def test_operands_go_ahead_of_labels(self):
        self.troubled("main:1", BadOperands, (0,), "byte: jump")
        self.troubled("main:1", NoInstruction, ("q",), ".x: q")

    def test_equations(self):
        for name in ("a.b", ".x", "byte", "s.byte"):
            self.troubled("main:1", BadName, (name,), f"{name} = 5")
        self.troubled("main:2", Taken, ("x",), "x:\nx = 5")
        self.troubled("main:3", Taken, ("s.x",), "import s.x\nscope s\nx = 5")
        many = "\n".join([f"e{number} = {number}" for number in range(300)])
        self.assertEqual(len(made(many).equations), 300)
        self.troubled("main:301", TooLarge, (300,), many + "\nlast = nothing\nbyte 256")
        self.troubled("main:301", Taken, ("e0",), many + "\ne0 = 1")

    def test_imports_and_exports(self):
        self.troubled("main:1", BadName, ("a.byte",), "import b, a.byte, b")
        self.troubled("main:1", BadName, ("set",), "import set")
        self.troubled("main:1", Taken, ("a",), "import a, a")
        self.troubled("main:3", Taken, ("a",), "a:\nimport b\nimport b.c, a")
        self.troubled("main:3", Taken, ("a",), "a:\nexport a\nexport b, a, b")
        self.troubled("main:2", Taken, ("a",), "a:\nexport a, a")
        self.troubled("main:2", Taken, ("nothing",), "export nothing\nexport nothing")

    def test_scopes(self):
        self.troubled("main:1", BadName, ("byte",), "scope byte\nbyte +")
        self.troubled("main:9", TooLarge, (8,), "\n".join(["scope s"] * 9))
        self.troubled("main:2", BadBlock, (2,), "halt\nendscope\nbyte +")
        self.troubled("main:4", BadBlock, (4,), "scope s\nendscope\nhalt\nendscope")
        self.troubled("main:2", BadName, ("mod",), "f:\nscope mod")

    def test_the_scope_that_stays_open(self):
        self.troubled("main:1", BadBlock, (1,), "scope s\nhalt")
        self.troubled("main:3", BadBlock, (3,), "scope s\nhalt\nscope t\nhalt")
        self.troubled("main:1", BadBlock, (1,), "scope s\nhalt\nscope t\nhalt\nendscope")
        lines = (("scope s", Origin(("a", 7), ("b", 9))), ("halt", Origin(("c", 1))))
        with self.assertRaises(Trouble) as caught:
            object_of(lines, TABLE)
        self.assertEqual((str(caught.exception.origin), caught.exception.cause.line), ("a:7<b:9", 7))
        with self.assertRaises(Trouble) as caught:
            object_of((("endscope", Origin(("a", 7), ("b", 9))),), TABLE)
        self.assertEqual((str(caught.exception.origin), caught.exception.cause.line), ("a:7<b:9", 7))


class Names(ObjectCase):
    def test_unknown_names(self):
        self.troubled("main:2", NoName, ("y",), "x:\nmove x, y + z\nbyte z")
        self.troubled("main:1", NoName, ("z",), "byte x, 1 + z, y\nx:")
        self.troubled("main:2", NoName, ("s.y",), "x:\nword x, s.y")
        self.troubled("main:2", NoName, (".y",), "x:\nf: jump .y")
        self.troubled("main:1", NoName, (".y",), "jump .y\nf:\n.y:")
        self.troubled("main:2", NoName, ("y",), "x = 1\ne = y - y\nf = z")
        self.troubled("main:1", NoName, ("x",), "byte x\nscope s\nx:\nendscope")
        self.troubled("main:1", NoName, ("n",), "space 1, n")
        self.troubled("main:3", NoName, ("main",), "section s\nf:\nbyte main")

    def test_exports(self):
        self.troubled("main:2", NoName, ("y",), "x:\nexport x, y, z")
        self.troubled("main:2", NoName, ("q",), "import q\nexport q")
        self.troubled("main:2", NoName, ("x",), "scope s\nexport x\nx:\nendscope")
        self.troubled("main:1", NoName, ("byte",), "export byte")
        self.troubled("main:1", NoName, ("y",), "export y\nbyte z")
        self.troubled("main:1", NoName, ("z",), "byte z\nexport y")

    def test_rings(self):
        self.troubled("main:2", Cycle, (("a", "c"),), "c = a\na = c + d\nd = d2\nd2 = 5")
        self.troubled("main:3", Cycle, (("a",),), "c = b\nb = c\na = a - a")
        self.troubled("main:2", Cycle, (("s.b", "s.c"),), "scope s\nb = c\nc = b\nendscope\nz = z")
        self.troubled("main:1", Cycle, (("b", "c"),), "b = 0 * c\nc = b")

    def test_equations_that_are_refused(self):
        self.troubled("main:3", BadShift, (65,), "c = 1 / 0\nb = a + 1\na = 1 << 65")
        self.troubled("main:1", DividedByZero, (), "a = 1 / b\nb = 0\nc = 1 << 65")
        self.troubled("main:3", NotPlain, ("f",), "f:\ng:\ne = (g + f) * f")
        self.troubled("main:2", NotPlain, ("f",), "f:\ne = f == f")
        self.troubled("main:3", NotPlain, ("f",), "export f\nf:\ne = f / 2")
        self.troubled("main:1", TooLarge, (LIMIT,), f"e = {LIMIT} + 1")
        names = [f"l{number}" for number in range(17)]
        text = "import " + ", ".join(names) + "\ne = " + " + ".join(names)
        self.troubled("main:2", TooLarge, (16,), text)


class Operands(ObjectCase):
    def test_gaps_and_alignments(self):
        self.troubled("main:1", BadNumber, (-1,), "space -1")
        self.troubled("main:1", BadNumber, (65537,), "space 65537, 256")
        self.troubled("main:1", BadNumber, (256,), "space 65536, 256")
        self.troubled("main:1", BadNumber, (3,), "align 3, -1")
        self.troubled("main:1", BadNumber, (-1,), "align 2, -1")
        self.troubled("main:1", BadNumber, (0,), "align 0")
        self.troubled("main:1", BadNumber, (128,), "align 128")

    def test_the_count_first(self):
        self.troubled("main:2", NotPlain, ("f",), "f:\nspace f, 1 / 0")
        self.troubled("main:2", DividedByZero, (), "f:\nspace 1 / 0, f")
        self.troubled("main:2", BadNumber, (-1,), "f:\nspace 0 - 1, 1 / 0")
        self.troubled("main:2", NotPlain, ("f",), "f:\nspace 1, f")
        self.troubled("main:2", DividedByZero, (), "f:\nalign 4, 1 / 0")
        self.troubled("main:3", NotPlain, ("a",), "b:\na:\nalign b - 2 * a + 4")
        self.troubled("main:2", NotPlain, ("q",), "import q, r\nspace r + q")
        self.troubled("main:2", NotPlain, ("f",), "f:\nspace f == f")
        self.troubled("main:2", NotPlain, ("f",), "f:\nspace f * f + 1 / 0")

    def test_names_of_forms_are_full_names(self):
        self.troubled("main:4", NotPlain, ("a",), "a:\nz:\nexport a\nspace z + a")
        self.troubled("main:4", NotPlain, ("a",), "a:\nz:\nexport z\nspace z + a")
        self.troubled("main:5", NotPlain, ("s.f",), "scope s\nf:\nendscope\ne = s.f + 1\nspace e")

    def test_data(self):
        for line, value in (
            ("byte 1, 256", 256), ("byte -129", -129), ("word 65536", 65536), ("word 1, -32769, 65536", -32769),
            ("long 4294967296", 2 ** 32), ("long -2147483649", -2 ** 31 - 1),
        ):
            self.troubled("main:2", BadNumber, (value,), "f:\n" + line)

    def test_from_the_left(self):
        self.troubled("main:2", BadNumber, (256,), "f:\nbyte 256, 1 / 0")
        self.troubled("main:2", DividedByZero, (), "f:\nbyte 1 / 0, 256")
        self.troubled("main:2", NotPlain, ("f",), "f:\nmove f * f, 1 / 0")
        self.troubled("main:2", TooLarge, (LIMIT,), f"f:\nmove {LIMIT} * 2, 1 / 0")
        self.troubled("main:2", BadShift, (-1,), "f:\njump 1 << -1")

    def test_values_of_instructions_are_not_looked_at(self):
        whole = made(f"jump {LIMIT}\nload 0 - {LIMIT}\nf: byte f + 1000")
        self.assertTrue(whole["main"][0].operands == (form(str(LIMIT)),))

    def test_by_lines(self):
        self.troubled("main:1", BadNumber, (300,), "byte 300\nf: byte 1 / 0")
        self.troubled("main:1", BadNumber, (-1,), "space -1\nalign 1 / 0")


class Order(ObjectCase):
    def test_each_step_goes_ahead_of_later_ones(self):
        for number, (line, error, fields) in enumerate(STEPS):
            for other, _, _ in STEPS[number + 1:]:
                self.troubled("main:2", error, fields, f"{other}\n{line}")
                self.troubled("main:1", error, fields, f"{line}\n{other}")

    def test_the_first_line_of_a_step(self):
        for line, error, fields in STEPS:
            other = "q = q" if error is Cycle else "a = 1 << 65" if error is DividedByZero else "byte +" if error is BadOperands else None
            if other is None:
                self.troubled("main:1", error, fields, f"{line}\n{line}")
        self.troubled("main:2", Cycle, (("q",),), "r = r\nq = q")
        self.troubled("main:2", BadShift, (65,), "w = 1 / 0\na = 1 << 65")
        self.troubled("main:1", BadOperands, (0,), "jump\nbyte 1, +")

    def test_the_open_scope_stands_between(self):
        self.troubled("main:2", BadOperands, (0,), "scope s\njump")
        for line, _, _ in STEPS[1:]:
            self.troubled("main:2", BadBlock, (2,), f"{line}\nscope s")

    def test_in_one_line(self):
        self.troubled("main:2", BadLine, (0,), "f:\n(: jump")
        self.troubled("main:1", BadName, ("byte",), "byte: byte nothing")
        self.troubled("main:1", NoName, ("nothing",), "byte 256, nothing")
        self.troubled("main:1", NoName, ("nothing",), "space -1, nothing")

    def test_the_origin_is_that_of_the_line(self):
        lines = (("halt", Origin(("a", 1))), ("byte 256", Origin(("b", 5), ("c", 2), ("d", 100000))))
        with self.assertRaises(Trouble) as caught:
            object_of(lines, TABLE)
        self.assertTrue(caught.exception.origin == lines[1][1])

    def test_equal_lines_are_refused_where_they_stand(self):
        self.troubled("main:4", Taken, ("f.x",), "f:\n.x: byte 1\nhalt\n.x: byte 1")
        with self.assertRaises(Trouble):
            object_of(lines_of("halt\nq"), TABLE)
