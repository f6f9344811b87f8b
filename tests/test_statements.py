"""Statements and their normal texts: [52], [53]."""

from helpers import Case
from macroasm.errors import BadLine, BadOperands, TooLarge
from macroasm.statements import statement_of

KINDS = (
    ("section data", "section", ("data",)), ("section byte", "section", ("byte",)),
    ("byte 1", "byte", ("1",)), ("word 1, x", "word", ("1", "x")),
    ("long -1, .x, a.b@2, 3", "long", ("-1", ".x", "a.b@2", "3")),
    ("text \"a, b\"", "text", ("\"a, b\"",)), ("text \"\"", "text", ("\"\"",)),
    ("space 3", "space", ("3",)), ("space n + 1, 255", "space", ("n + 1", "255")),
    ("align 4", "align", ("4",)), ("align 4, 7", "align", ("4", "7")),
    ("scope s", "scope", ("s",)), ("scope s@12", "scope", ("s@12",)), ("endscope", "endscope", ()),
    ("export a", "export", ("a",)), ("export a.b, c", "export", ("a.b", "c")),
    ("import a.b.c.d.e.f.g.h", "import", ("a.b.c.d.e.f.g.h",)), ("import a, b", "import", ("a", "b")),
    ("jump f", "jump", ("f",)), ("halt", "halt", ()), ("go 1, 2, 3, 4, 5", "go", ("1", "2", "3", "4", "5")),
    ("macro x", "macro", ("x",)), ("endif", "endif", ()),
)


class Kinds(Case):
    def test_each_kind_with_a_label_and_without(self):
        for line, operation, operands in KINDS:
            for label in (None, "f", ".x", "f@3"):
                front = "" if label is None else label + ": "
                statement = statement_of(front + line)
                self.assertEqual((statement.label, statement.operation, statement.operands),
                    (label, operation, operands))
                self.assertEqual(statement.text, front + line)

    def test_a_label_alone(self):
        for label in ("f", ".x", "f@3", "byte"):
            statement = statement_of(f"  {label}: ; alone")
            told = (statement.label, statement.operation, statement.operands, statement.text)
            self.assertEqual(told, (label, None, (), label + ":"))

    def test_equations(self):
        for name in ("x", "x@1", "a.b", ".x", "byte"):
            statement = statement_of(f"{name}=a+1")
            told = (statement.label, statement.operation, statement.operands, statement.text)
            self.assertEqual(told, (None, "=", (name, "a + 1"), name + " = a + 1"))

    def test_parts_of_operands(self):
        self.assertEqual(statement_of("byte ( a )*(b) , (c) ; x").operands, ("a * b", "c"))
        self.assertEqual(statement_of("byte ';', ',' ; 'c").operands, ("59", "44"))
        self.assertEqual(statement_of("text \"a;b,c)\" ; d").operands, ("\"a;b,c)\"",))
        self.assertEqual(statement_of("byte'a'").text, "byte 97")
        self.assertEqual(statement_of("byte-1").text, "byte -1")
        self.assertEqual(statement_of("byte(1+2)*3").text, "byte (1 + 2) * 3")


class Refused(Case):
    def test_neither_label_nor_operation(self):
        for line in ("", "   ", "; f: jump f", "  ;"):
            self.refused(BadLine, (0,), statement_of, line)

    def test_errors_of_lines(self):
        for value in (None, 5, True, ("byte 1",), ["byte 1"], {}, "byte 1\n", "a\nb"):
            self.refused(BadLine, (0,), statement_of, value)
        self.refused(TooLarge, (400,), statement_of, "byte 1" + " " * 395)
        self.assertEqual(statement_of("byte 1" + " " * 394).text, "byte 1")
        self.refused(TooLarge, (2 ** 64,), statement_of, "byte 99999999999999999999")
        for line, column in (("byte @x", 5), ("1: byte", 0), ("a.b: byte 1", 0), ("= 5", 0), ("x: = 5", 3),
            ("byte (1", 7), ("byte 'a", 7)):
            self.refused(BadLine, (column,), statement_of, line)

    def test_operands_that_lack(self):
        for word in ("section", "byte", "word", "long", "text", "space", "align", "scope", "export", "import"):
            self.refused(BadOperands, (0,), statement_of, word)
            self.refused(BadOperands, (0,), statement_of, f"x: {word} ; none")
        self.refused(BadOperands, (1,), statement_of, "x =")

    def test_operands_that_are_too_many(self):
        for line, index in (
            ("section a, b", 1), ("text \"a\", \"b\"", 1), ("space 1, 2, 3", 2), ("align 1, 2, 3", 2),
            ("scope a, b", 1),
            ("endscope a", 0), ("endscope ,", 0), ("x = 1, 2", 1),
        ):
            self.refused(BadOperands, (index,), statement_of, line)

    def test_operands_that_have_not_the_form(self):
        for line, index in (
            ("section 5", 0), ("section a.b", 0), ("section .a", 0), ("section a@1", 0), ("section \"a\"", 0),
            ("section a b", 0),
            ("scope a.b", 0), ("scope .a", 0), ("scope 1", 0), ("scope (a)", 0),
            ("byte 1,", 1), ("byte , 1", 0), ("byte 1, \"a\", +", 1), ("byte {1}", 0), ("word 1 2", 0),
            ("long a < b < c", 0),
            ("text a", 0), ("text 'a'", 0), ("text \"a\" \"b\"", 0), ("text (\"a\")", 0), ("text \"a\" + 1", 0),
            ("text ,", 0),
            ("space ,1", 0), ("space 1,", 1), ("align \"4\"", 0), ("align 4, \"0\"", 1),
            ("export .x", 0), ("export a@1", 0), ("export b, a.c@2", 1), ("export 1", 0), ("export a + b", 0),
            ("export a,", 1),
            ("import .x", 0), ("import a@1", 0), ("import b, a@1.c", 1), ("import (a)", 0), ("import", 0),
            ("jump 1 +", 0), ("jump 1, 2 +, 3", 1), ("jump ,", 0), ("jump \"a\"", 0),
            ("x = ", 1), ("x = 1 +", 1), ("x = \"a\"", 1), ("x == 5", 0),
        ):
            self.refused(BadOperands, (index,), statement_of, line)

    def test_what_no_expression_is(self):
        self.refused(BadOperands, (1,), statement_of, "byte 1, " + "(" * 21 + "1" + ")" * 21)
        self.refused(BadOperands, (1,), statement_of, "byte 1, " + "-" * 21 + "1")
        self.refused(BadOperands, (0,), statement_of, "byte " + "1+" * 100 + "1")
        self.assertEqual(len(statement_of("byte " + "1+" * 99 + "1").operands), 1)
        self.refused(BadOperands, (1,), statement_of, "x = " + "(" * 21 + "1" + ")" * 21)


class NormalTexts(Case):
    def test_read_again(self):
        for line in (
            *[line for line, _, _ in KINDS], "f:byte 0x10,(a)+((b)),'\\''", "x=-(-(3))", ".x:", " a@1: byte 1",
            "text  \"\\'a\\\"\\\\\\n\"", "jump   f,( .x )", "export a ,b", " space 0b11 , 07 ; c",
        ):
            statement = statement_of(line)
            again = statement_of(statement.text)
            self.assertTrue(again == statement and again.text == statement.text, line)
            self.assertEqual((again.label, again.operation, again.operands),
                (statement.label, statement.operation, statement.operands))

    def test_blanks_and_brackets(self):
        for line, text in (
            ("f:byte 0x10,(a)+((b)),'\\''", "f: byte 16, a + b, 39"), ("  x  =-( - 3)", "x = --3"),
            ("x=a-(b-c)", "x = a - (b - c)"),
            ("jump   f,( .x )  ; c", "jump f, .x"), ("export a ,b", "export a, b"), (" space 0b11 , 07", "space 3, 7"),
            ("text \"\\'\\\"\\\\\\n'\"", "text \"'\\\"\\\\\\n'\""), ("endscope  ; s", "endscope"),
            ("f:endscope", "f: endscope"),
        ):
            self.assertEqual(statement_of(line).text, text)

    def test_equality(self):
        one = statement_of("f: byte 0x10, (a)")
        self.assertTrue(one == statement_of("f:byte 16,a ; b"))
        for line in ("g: byte 16, a", "byte 16, a", "f: word 16, a", "f: byte 16", "f: byte a, 16", "f:"):
            self.assertFalse(one == statement_of(line))
        for value in (None, 5, "f: byte 16, a", one.text, ("f",), [], {}):
            self.assertFalse(one == value)


class Paths(Case):
    def test_names_from_the_left(self):
        for line, names in (
            ("go b + a * b, .x, a, c.d@1 - .x", ["b", "a", ".x", "c.d@1"]), ("x = y - x + y", ["y", "x"]),
            ("f: jump f", ["f"]),
            ("space n, m + n", ["n", "m"]), ("byte 1, 'a'", []), ("text \"a b\"", []), ("section a", []),
            ("scope a", []),
            ("export a, b", []), ("import a", []), ("f:", []), ("halt", []), ("align q.r", ["q.r"]),
        ):
            self.assertEqual(list(statement_of(line).paths()), names)
