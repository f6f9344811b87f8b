"""The parts of lines: [4], [5], [6], [7]."""

from helpers import LIMIT, Case
from macroasm.errors import BadLine, TooLarge
from macroasm.lines import Line, head_of, operands_of, unbraced


def parts(text, made=False):
    """The four properties of a line."""
    line = Line(text, made=made)
    return line.label, line.operation, line.operands, line.is_equation


class Parts(Case):
    def test_all_three(self):
        self.assertEqual(parts(" x: op a, (b , c) ; d"), ("x", "op", ("a", "(b , c)"), False))

    def test_missing_parts(self):
        self.assertEqual(parts(""), ("", "", (), False))
        self.assertEqual(parts(" ; a"), ("", "", (), False))
        self.assertEqual(parts("x:"), ("x", "", (), False))
        self.assertEqual(parts("op"), ("", "op", (), False))
        self.assertEqual(parts("x:op"), ("x", "op", (), False))

    def test_labels_of_each_kind(self):
        for label in ("x", ".x", "@x", "if", "a" * 40):
            self.assertEqual(parts(label + ": op"), (label, "op", (), False))
        for label in ("x@1", "x", ".x"):
            self.assertEqual(parts(label + ":op", True), (label, "op", (), False))

    def test_a_label_is_directly_followed_by_its_colon(self):
        self.assertEqual(parts("x : op"), ("", "x", (": op",), False))
        self.refused(BadLine, (0,), Line, ".x : op")

    def test_what_is_no_label(self):
        self.refused(BadLine, (0,), Line, "a.b: op")
        self.refused(BadLine, (0,), Line, "mod: op")
        self.refused(BadLine, (0,), Line, "5: op")
        self.refused(BadLine, (1,), Line, " \"x\": op")

    def test_what_is_no_operation(self):
        for text, column in (
            ("5", 0), (".x", 0), ("@x", 0), ("a.b", 0), ("x: 5", 3), ("x: .y", 3), ("x: a.b c", 3), ("mod a", 0),
            (" (a)", 1), ("x: = 5", 3), ("= 5", 0), (", a", 0), ("\"a\"", 0),
        ):
            self.refused(BadLine, (column,), Line, text)
        self.refused(BadLine, (0,), Line, "a@1 b", made=True)
        self.refused(BadLine, (3,), Line, "x: a@1", made=True)

    def test_only_one_label(self):
        self.assertEqual(parts("x: y: z"), ("x", "y", (": z",), False))

    def test_a_string_that_is_a_sign_is_none(self):
        self.refused(BadLine, (0,), Line, ".x\":\" op")
        self.assertEqual(parts("x \"=\""), ("", "x", ("\"=\"",), False))


    def test_lines_are_no_plain_ones_unless_it_is_said(self):
        self.assertEqual(Line("@x: op").label, "@x")
        self.refused(BadLine, (1,), Line, "x@1: op")


class Equations(Case):
    def test_names_of_each_kind(self):
        for name in ("x", ".x", "@x", "a.b", "if"):
            self.assertEqual(parts(name + " = 5 ; c"), ("", "=", (name, "5"), True))
        self.assertEqual(parts("a@1.b=5", True), ("", "=", ("a@1.b", "5"), True))

    def test_all_behind_is_one_operand(self):
        self.assertEqual(parts("x=a, (b) = {c}"), ("", "=", ("x", "a, (b) = {c}"), True))
        self.assertEqual(parts("x ="), ("", "=", ("x", ""), True))

    def test_what_is_no_equation(self):
        self.assertEqual(parts("x == 5"), ("", "x", ("== 5",), False))
        self.assertEqual(parts("x: y = 5"), ("x", "y", ("= 5",), False))
        self.refused(BadLine, (0,), Line, "mod = 5")
        self.refused(BadLine, (0,), Line, "5 = 5")

    def test_brackets(self):
        self.refused(BadLine, (7,), Line, "x = (1 ")
        self.refused(BadLine, (4,), Line, "x = )")


class Operands(Case):
    def test_between_commas(self):
        for text, wanted in (
            ("op", ()), ("op ", ()), ("op ;a", ()), ("op a", ("a",)), ("op a,", ("a", "")), ("op ,", ("", "")),
            ("op , a ,", ("", "a", "")), ("op a b,c", ("a b", "c")), ("op(a,b)", ("(a,b)",)),
            ("op {a,(b,c)},d", ("{a,(b,c)}", "d")), ("op \",\",','", ("\",\"", "','")), ("op a ; ,", ("a",)),
            ("op \"(\", '{'", ("\"(\"", "'{'")),
        ):
            self.assertEqual(Line(text).operands, wanted)
            self.assertEqual(operands_of(text), wanted)

    def test_brackets_in_wrong_order(self):
        for text, column in (("op )", 3), ("op (a}", 5), ("op {(})", 5), ("op a, }", 6), ("op ())", 5)):
            self.refused(BadLine, (column,), Line, text)
            self.refused(BadLine, (column,), operands_of, text)

    def test_brackets_that_stay_open(self):
        for text in ("op (", "op {a ", "op ({}", "op ( ; c", "op {a, b"):
            self.refused(BadLine, (len(text),), Line, text)
            self.refused(BadLine, (len(text),), operands_of, text)

    def test_the_order_of_what_is_refused(self):
        self.refused(BadLine, (5,), Line, "op ) $")
        self.refused(TooLarge, (LIMIT,), Line, "5 " + "9" * 40)
        self.refused(BadLine, (0,), Line, "a.b )")
        self.refused(BadLine, (6,), operands_of, "op ) '")

    def test_operands_of_looks_at_quotes_and_brackets_alone(self):
        self.assertEqual(operands_of("op $x, #, 9a ; '"), ("$x", "#", "9a"))
        self.assertEqual(operands_of("x: op a"), ("a",))
        self.assertEqual(operands_of("x = a, b"), ("= a", "b"))
        self.assertEqual(operands_of("@x:op.y"), (".y",))
        self.assertEqual(operands_of("9, a"), ("9", "a"))
        self.assertEqual(operands_of(""), ())
        self.refused(BadLine, (5,), operands_of, "op 'ab'")
        self.refused(BadLine, (5,), operands_of, "op \"a")


class Heads(Case):
    def test_heads(self):
        for line, wanted in (
            ("", ("", "")), ("  ", ("", "")), ("op", ("", "op")), (" x: op a", ("x", "op")), ("x:", ("x", "")),
            ("x:op", ("x", "op")), (".x:op", (".x", "op")), ("@x:  op", ("@x", "op")), ("x : op", ("", "x")),
            ("a.b: c", ("", "a")), (".x op", ("", "")), ("@x", ("", "")), ("op(a", ("", "op")), ("op$x", ("", "op")),
            ("9 op", ("", "")), ("x: 9", ("x", "")), ("\"a", ("", "")), ("x: y: z", ("x", "y")), ("; a", ("", "")),
            ("if.x = 3", ("", "if")), ("x@1: op", ("x@1", "op")), ("a" * 41, ("", "a" * 40)),
            (": op", ("", "")), (".: op", ("", "")), ("@: op", ("", "")), (".x@1: op", ("", "")),
            ("x@0: op", ("", "x")), ("x@1234567890: op", ("", "x")), ("a" * 41 + ":", ("", "a" * 40)), ("a" * 40 + ": b", ("a" * 40, "b")),
        ):
            self.assertEqual(head_of(line), wanted, line)


class Braces(Case):
    def test_outer_braces(self):
        for text, wanted in (
            ("{a}", "a"), ("{}", ""), ("{ a }", " a "), ("{{a}}", "{a}"), ("{a}{b}", "{a}{b}"), ("{a} ", "{a} "),
            (" {a}", " {a}"), ("(a)", "(a)"), ("", ""), ("a", "a"), ("{\"}\"}", "\"}\""), ("{'{'}", "'{'"),
            ("{(a), {b}}", "(a), {b}"), ("{$x}", "$x"),
        ):
            self.assertEqual(unbraced(text), wanted)

    def test_wrong_brackets_and_quotes(self):
        for text, column in (("{", 1), ("}", 0), ("{a)}", 2), ("{a}}", 3), ("(", 1), ("{'ab'}", 3), ("{\"}", 3)):
            self.refused(BadLine, (column,), unbraced, text)


class Lengths(Case):
    def test_lines_of_400_characters(self):
        long = "x: " + "a" * 38 + " " * 359
        self.assertEqual(len(long), 400)
        self.assertEqual(Line(long).label, "x")
        self.assertEqual(head_of(long), ("x", "a" * 38))
        self.assertEqual(operands_of(long), ())
        self.assertEqual(unbraced(long), long)

    def test_longer_lines(self):
        for asked in (Line, head_of, operands_of, unbraced):
            self.refused(TooLarge, (400,), asked, "a" + " " * 400)
            self.refused(TooLarge, (400,), asked, "(" * 401)

    def test_no_lines(self):
        for asked in (Line, head_of, operands_of, unbraced):
            for value in (None, True, 1, b"a", ("a",), ["a"], "a\nb", "\n" * 401):
                self.refused(BadLine, (0,), asked, value)


class Objects(Case):
    def test_text_is_a_line_with_the_same_parts(self):
        for text, made in (
            (" x: op a , (b , c),, ; d", False), ("", False), ("x : y", False), (" .x=5 ", False), ("@x:", False),
            ("op(" + "a," * 195 + "a)", False), ("x@1: op y@2", True), ("op \";\" ; c", False),
        ):
            line = Line(text, made=made)
            self.assertEqual(Line(str(line), made=made), line)

    def test_equal_parts(self):
        self.assertEqual(Line("x:op a,b"), Line(" x:  op  a , b ; c"))
        self.assertEqual(Line("x=5"), Line("x = 5"))
        self.assertEqual(Line("op a"), Line("op a", made=True))

    def test_other_parts(self):
        lines = [Line(text) for text in ("op a", "x: op a", "op", "op a,", "op = a", "op a, b", "op A", "", "op: a")]
        for one, line in enumerate(lines):
            for other, another in enumerate(lines):
                self.assertIs(line == another, one == other)

    def test_other_kinds(self):
        self.assertIs(Line("op") == "op", False)
        self.assertIs(Line("op") != "op", True)
        self.assertIs(Line("op") == None, False)  # noqa: E711
        self.assertIs(Line("") == ("", "", ()), False)
