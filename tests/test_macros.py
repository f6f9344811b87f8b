"""Definitions of macros, and what is written into their bodies: [19], [22]."""

from helpers import Case
from macroasm.errors import BadBlock, BadLine, BadName, BadOperands, Taken, TooLarge, Trouble
from macroasm.expanding import Expander
from macroasm.macros import Macro, macros_of


def defined(head, *body):
    """The macro of a text that defines one."""
    found = macros_of("\n".join(["macro " + head, *body, "endmacro"]))
    return list(found.values())[0]


class Definitions(Case):
    def refuses(self, origin, error, fields, text):
        """Looking at the definitions raises this Trouble."""
        for asked in (macros_of, Expander):
            with self.assertRaises(Trouble) as caught:
                asked(text)
            cause = caught.exception.cause
            self.assertEqual((str(caught.exception.origin), type(cause)), (origin, error))
            self.assertEqual(tuple(vars(cause).values()), fields)

    def refuses_head(self, error, fields, head):
        """A definition with this head is refused."""
        self.refuses("text:1", error, fields, f"macro {head}\nendmacro")

    def test_in_their_order(self):
        found = macros_of("macro b\nx\nendmacro\na\nmacro a\n\ny\nendmacro", source="s")
        self.assertEqual(list(found), ["b", "a"])
        self.assertEqual([found["b"].body, found["a"].body], [("x",), ("", "y")])
        self.assertEqual([found["b"].place, found["a"].place], [("s", 1), ("s", 5)])
        self.assertEqual(macros_of("a\nb"), {})

    def test_parameters(self):
        for head, wanted in (
            ("m", ()), ("m ; a", ()), ("m  ", ()), ("m a", (("a", None),)), ("m a,b", (("a", None), ("b", None))),
            ("  m   a = 5 ,b=", (("a", "5"), ("b", ""))), ("m a..", (("a", ".."),)),
            ("m a, b ..", (("a", None), ("b", ".."))), ("m a = {x, y}, b", (("a", "x, y"), ("b", None))),
            ("m a = {}", (("a", ""),)), ("m a = {{x}}", (("a", "{x}"),)), ("m a = {x} {y}", (("a", "{x} {y}"),)),
            ("m a = (x, y)", (("a", "(x, y)"),)), ("m a = \",\" ; b", (("a", "\",\""),)),
            ("m if, mod", (("if", None), ("mod", None))), ("m a = b = c", (("a", "b = c"),)),
            ("m a = @x", (("a", "@x"),)), ("m a = x y", (("a", "x y"),)), ("m a=5,b", (("a", "5"), ("b", None))),
            ("m a,b,c,d,e,f,g,h", tuple((name, None) for name in "abcdefgh")),
        ):
            self.assertEqual(defined(head).parameters, wanted, head)

    def test_errors_of_the_line(self):
        self.refuses_head(BadLine, (9,), "m (")
        self.refuses_head(BadLine, (8,), "9 )")
        self.refuses_head(BadLine, (10,), "m 'ab'")
        self.refuses_head(BadLine, (11,), "m \"ab")

    def test_names(self):
        for name in ("9", "if", "mod", "byte", "a.b", "@a", ".a", "$x", "m(a)", "\"a\"", "m=5", "a" * 41, "a..", "a:"):
            self.refuses_head(BadName, (name,), name + " 9")
        self.refuses_head(BadName, ("",), "")
        self.refuses_head(BadName, ("",), ", a")
        self.refuses_head(BadName, ("(a",), "(a, b)")
        self.assertEqual(defined("a" * 40).macro_name, "a" * 40)
        self.assertEqual(defined("sets").macro_name, "sets")

    def test_taken_names(self):
        text = "macro m\nendmacro\nmacro m 9\nendmacro"
        self.refuses("text:3", Taken, ("m",), text)

    def test_wrong_parameters(self):
        for index, head in (
            (0, "m 9"), (1, "m a, 9"), (0, "m ,"), (0, "m, a"), (1, "m a,"), (1, "m a, a"), (2, "m a, b, a = 5"),
            (0, "m a.., b"), (1, "m a, b.., c.."), (0, "m a = .."), (0, "m a = {..}"), (0, "m a = b.."), (0, "m .."),
            (0, "m a = $"), (1, "m a, b = \"$\""), (0, "m {a = b}"), (0, "m = 5"), (0, "m a b"), (0, "m 9.."),
            (8, "m a, b, c, d, e, f, g, h, i"), (7, "m a, b, c, d, e, f, g, h.., i"), (0, "m a.b"), (0, "m @a"),
            (0, "m $a"), (0, "m a = {$x}"), (0, "m " + "a" * 41), (0, "m a. ."),
        ):
            self.refuses_head(BadOperands, (index,), head)

    def test_what_a_body_does_not_know(self):
        for line, column in (
            ("$", 0), ("  a $x", 4), ("$px", 0), ("$$ $q", 3), ("\"$x\"", 1), ("a $5", 2), ("a '$'", 3), ("x $ ", 2),
            ("$$$x", 2), ("$-", 0), ("$)", 0), ("$p_", 0),
        ):
            self.refuses("text:3", BadLine, (column,), f"macro m p\n\n{line}\nendmacro")

    def test_wrong_own_names(self):
        for line, column in (
            ("a@b", 1), ("  @", 2), ("@ a", 0), ("@5", 0), ("a @@b", 2), ("$p@b", 2), ("9@a", 1), ("_@a", 1),
            ("a, @b, c@d", 8), ("@a@b", 2),
        ):
            self.refuses("text:2", BadLine, (column,), f"macro m p\n{line}\nendmacro")

    def test_what_a_body_knows(self):
        for line in (
            "$p", "$$", "$|", "$#", "$@", "$(", "$(1", "$()", "a;$x", "a ; c@d", "\"@5 a@b\"", "'@'", "@a", "(@a)",
            "$p$|_", "$@x", "$$$p", "\"a;$p\"", "a$@", "@p: b", "$(@a)", "$p:", "'$p'", "\"$p", "'$p' ; $x",
        ):
            self.assertEqual(defined("m p", line).body, (line,))

    def test_all_else_is_looked_at_when_it_is_reached(self):
        for line in ("#", "\"", "'ab'", "a.b: c", ")", "if", "set 5", "m", "$(", "$(]", "@" + "a" * 50, "a" * 60):
            block = (line, "endif") if line == "if" else (line,)
            self.assertEqual(defined("m", *block).body, block)
            self.expands([], "macro m\n" + "\n".join(block) + "\nendmacro")

    def test_definitions_are_looked_at_in_order(self):
        self.refuses("text:2", BadLine, (0,), "macro m\n$x\nendmacro\nmacro 9\nendmacro")
        self.refuses("text:1", BadOperands, (0,), "macro m 9\n$x\nendmacro\nmacro n\n$y\nendmacro")
        self.refuses("text:3", BadLine, (0,), "a $x\nmacro m\n$x\n@\nendmacro")

    def test_ahead_of_them(self):
        text = "macro 9\nendmacro"
        for asked in (macros_of, Expander):
            for source in ("", "9", "a" * 21, "a.b", None, 3, True, ("a",)):
                self.refused(BadName, (source,), asked, "if" + "a" * 20000, source=source)
            self.refused(TooLarge, (20000,), asked, text + "\nif\n" + "a" * 20000)
            self.refused(TooLarge, (400,), asked, text + "\nif\n" + "a" * 401)
            self.refused(BadBlock, (3,), asked, text + "\nif")

    def test_the_source_stands_in_the_origin(self):
        with self.assertRaises(Trouble) as caught:
            macros_of("macro 9\nendmacro", source="s" * 20)
        self.assertEqual(str(caught.exception.origin), "s" * 20 + ":1")


class Making(Case):
    def test_properties(self):
        macro = Macro("m", (("a", None), ("b", "x, y"), ("c", "..")), ("$a", " $b "), source="s", line=7)
        self.assertEqual(macro.macro_name, "m")
        self.assertEqual(macro.parameters, (("a", None), ("b", "x, y"), ("c", "..")))
        self.assertEqual(macro.body, ("$a", " $b "))
        self.assertEqual(macro.place, ("s", 7))
        self.assertEqual(Macro("m", (), ()).place, ("text", 1))

    def test_names(self):
        for name in ("", "9", "if", "mod", "a.b", "@a", "a" * 41, None, 3, True, ("m",), ["m"]):
            self.refused(BadName, (name,), Macro, name, None, None)

    def test_parameters(self):
        for given in (None, [], [("a", None)], "ab", 3, True, {}):
            self.refused(BadOperands, (0,), Macro, "m", given, None)
        for pair in (
            None, "ab", ("a",), ("a", None, None), ["a", None], ("9", None), ("a", 5), ("a", True), ("a", "$"),
            (None, None), ("a", ("x",)), ("a", ["x"]), ("b", None), (5, ".."), ("", ".."), (["a"], None),
        ):
            self.refused(BadOperands, (1,), Macro, "m", (("b", None), pair), None)
        self.refused(BadOperands, (0,), Macro, "m", (("a", ".."), ("b", None)), ())
        self.refused(BadOperands, (0,), Macro, "m", (("a", ".."), ("b", "..")), ())
        pairs = tuple((name, None) for name in "abcdefghi")
        self.assertEqual(len(Macro("m", pairs[:8], ()).parameters), 8)
        self.refused(BadOperands, (8,), Macro, "m", pairs, ())

    def test_bodies(self):
        for body in (None, [], ["a"], "ab", 3, True, (None,), ("a", 3), ("a", "b\n"), (("a",),), (b"a",)):
            self.refused(BadLine, (0,), Macro, "m", (), body)
        self.refused(BadLine, (0,), Macro, "m", (), ("$x", 3))
        self.refused(BadLine, (2,), Macro, "m", (), ("a", "b $x", "c@"))
        self.refused(BadLine, (1,), Macro, "m", (("x", None),), ("$x", "c@"))

    def test_lengths(self):
        self.assertEqual(len(Macro("m", (), ("a" * 400,)).body), 1)
        self.refused(TooLarge, (400,), Macro, "m", (), ("a", "a" * 401))
        self.refused(BadLine, (0,), Macro, "m", (), ("a" * 401, "$x"))

    def test_equality(self):
        macro = Macro("m", (("a", None),), ("x",))
        self.assertIs(macro == Macro("m", (("a", None),), ("x",), source="s", line=5), True)
        self.assertIs(macro == macros_of("\nmacro m a\nx\nendmacro")["m"], True)
        for other in (
            Macro("n", (("a", None),), ("x",)), Macro("m", (("a", ""),), ("x",)), Macro("m", (("a", None),), ("x", "")),
            Macro("m", (("b", None),), ("x",)), "m", None, ("m", (("a", None),), ("x",)),
        ):
            self.assertIs(macro == other, False)
            self.assertIs(macro != other, True)


class Arguments(Case):
    def test_operands_and_defaults(self):
        macro = Macro("m", (("a", None), ("b", "x, y"), ("c", "")), ())
        for operands, wanted in (
            (("1",), ("1", "x, y", "")), (("1", "2"), ("1", "2", "")), (("1", "", "3"), ("1", "x, y", "3")),
            (("{}", "{}", "{}"), ("", "", "")), (("{1, 2}", "{{a}}"), ("1, 2", "{a}", "")),
            (("{a}{b}", "", ""), ("{a}{b}", "x, y", "")), (("{ }",), (" ", "x, y", "")), (("x@1",),
            ("x@1", "x, y", "")),
        ):
            self.assertEqual(macro.arguments(operands), wanted)

    def test_the_rest(self):
        macro = Macro("m", (("a", ""), ("b", "..")), ())
        for operands, wanted in (
            ((), ("", "")), (("1",), ("1", "")), (("1", "2"), ("1", "2")), (("1", "{2, 3}", "", "{}"),
            ("1", "{2, 3}, , {}")),
        ):
            self.assertEqual(macro.arguments(operands), wanted)

    def test_too_few(self):
        macro = Macro("m", (("a", "5"), ("b", None), ("c", None)), ())
        self.refused(BadOperands, (1,), macro.arguments, ())
        self.refused(BadOperands, (1,), macro.arguments, ("", "", ""))
        self.refused(BadOperands, (2,), macro.arguments, ("", "1"))
        self.refused(BadOperands, (1,), macro.arguments, ("$", "", "1", "2"))
        self.assertEqual(macro.arguments(("", "{}", "2")), ("5", "", "2"))

    def test_too_many_or_with_a_dollar(self):
        macro = Macro("m", (("a", ""),), ())
        self.refused(BadOperands, (1,), macro.arguments, ("1", "2", "3"))
        self.refused(BadOperands, (0,), macro.arguments, ("$", "2"))
        self.refused(BadOperands, (1,), macro.arguments, ("1", ""))
        self.refused(BadOperands, (0,), Macro("m", (), ()).arguments, ("1",))
        self.refused(BadOperands, (2,), Macro("m", (("a", ".."),), ()).arguments, ("1", "2", "\"$\""))

    def test_filled_refuses_as_arguments(self):
        self.refused(BadOperands, (0,), Macro("m", (("a", None),), ()).filled, (), 1)
        self.refused(BadOperands, (1,), Macro("m", (("a", None),), ("$a" * 200,)).filled, ("aaa", "b"), 1)


class Filling(Case):
    def fills(self, wanted, line, operands=("x", "1", "2"), number=7):
        """A line of a body becomes the wanted one."""
        macro = Macro("m", (("a", None), ("ab", "d"), ("r", "..")), (line,))
        self.assertEqual(macro.filled(operands, number), (wanted,))

    def test_each_mark(self):
        self.fills("x 1 2", "$a $ab $r")
        self.fills("1", "$#")
        self.fills("7", "$@")
        self.fills("0", "$#", ("x",))
        self.fills("3", "$#", ("x", "", "1", "", "3"))
        self.fills("1, , 3", "$r", ("x", "", "1", "", "3"))

    def test_the_longest_row_counts(self):
        self.fills("1x", "$ab$a")
        self.fills("x$|b", "$a$|b")
        self.fills("x.b", "$a.b")
        self.fills("x:", "$a:")

    def test_everywhere(self):
        self.fills("  x: \"1\" 'x' 7 ", "  $a: \"$ab\" '$a' $@ ")
        self.fills("$(x + 1)", "$($a + 1)")
        self.fills("$|if x", "$|if $a")

    def test_comments_are_cut(self):
        self.fills("byte x ", "byte $a ; of $a $ @ $q")
        self.fills("", "; $a")
        self.fills(" ", " ;")
        self.fills("\";x\" ';' ", "\";$a\" ';' ;\"")
        self.fills("x'y ", "$a'y ; $a'")
        self.fills("'", "'; $a")
        self.fills("\"y ", "\"y ; $a")
        self.fills("\";\" 1", "$a $ab", ("\";\"", "1"))
        macro = Macro("m", (("a", None),), ("$a", "b ;" + "$a" * 100, ""))
        self.assertEqual(macro.filled(("x" * 100,), 1), ("x" * 100, "b ", ""))
        self.assertEqual(macro.body[1], "b ;" + "$a" * 100)
        self.assertEqual(macros_of("macro m a\n $a ; $a $b\nendmacro")["m"].filled(("1",), 1), (" 1 ",))

    def test_once(self):
        macro = Macro("m", (("a", None), ("b", None)), ("$a$b",))
        self.assertEqual(macro.filled(("{}", "a"), 1), ("a",))
        self.fills("$$a x", "$$a $a")
        self.fills("$$x", "$$$a")
        self.fills("$|a", "$|a")

    def test_all_lines(self):
        macro = Macro("m", (("a", None),), ("", " $a ", "$a$a"))
        self.assertEqual(macro.filled(("y",), 1), ("", " y ", "yy"))
        self.assertEqual(Macro("m", (), ()).filled((), 1), ())

    def test_without_a_rest(self):
        self.assertEqual(Macro("m", (), ("$# $@",)).filled((), 12), ("0 12",))
        self.assertEqual(Macro("m", (("a", None),), ("$#$a",)).filled(("x",), 1), ("0x",))

    def test_lengths(self):
        macro = Macro("m", (("a", None),), ("$a$a", "b"))
        self.assertEqual(macro.filled(("x" * 200,), 1)[0], "x" * 400)
        self.refused(TooLarge, (400,), macro.filled, ("x" * 201,), 1)
