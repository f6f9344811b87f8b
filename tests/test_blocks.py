"""Directives and blocks: [18]."""

from helpers import Case
from macroasm.errors import BadBlock, TooLarge
from macroasm.expanding import Expander
from macroasm.macros import Macro, blocks_of, macros_of


def lines(*rows):
    """A text of lines."""
    return "\n".join(rows)


class Finding(Case):
    def test_blocks_by_their_first_lines(self):
        text = lines(
            "macro m a", " repeat 2", "  if a", "  else", "  endif", " endrepeat", "endmacro ; end", "ifsame a, b",
            "endif", "set a = 1", "if(1)", "endif;", "repeat: a", "x: y",
        )
        self.assertEqual(blocks_of(text), [
            ("macro", 1, 7), ("repeat", 2, 6), ("if", 3, 5), ("ifsame", 8, 9), ("if", 11, 12),
        ])

    def test_no_blocks(self):
        for text in ("", "\n", "a\nb", "if: a", "; if", "iff\nelse_", "\"if\"", ".if", "$if", "5 if", "a.if"):
            self.assertEqual(blocks_of(text), [], text)

    def test_a_word_counts_as_it_is_written(self):
        self.assertEqual(blocks_of("if.x\nendif"), [("if", 1, 2)])
        self.assertEqual(blocks_of("$|if 1\n$|endif"), [])
        self.assertEqual(blocks_of("if : x\nendif"), [("if", 1, 2)])

    def test_what_stands_in_an_expander_is_looked_at_first(self):
        for asked in (blocks_of, macros_of, Expander):
            self.refused(BadBlock, (2,), asked, "macro 9\nendif")


class Refusing(Case):
    def refuses(self, line, *rows):
        """The text is refused at this line."""
        self.refused(BadBlock, (line,), blocks_of, lines(*rows))

    def test_directives_with_labels(self):
        for word in ("macro m", "repeat 2", "if 1", "ifsame a, b", "set a = 1", "else", "endif", "endrepeat"):
            for label in ("x", ".x", "@x"):
                self.refuses(2, "if 1", f" {label}: {word}", "endif")
        self.refuses(2, "macro m", "x: endmacro")

    def test_a_dollar_directly_behind_the_word(self):
        for word in ("macro", "endmacro", "repeat", "endrepeat", "if", "ifsame", "else", "endif", "set"):
            self.refuses(1, word + "$x")
            self.refuses(1, word + "$|")
            self.refuses(1, word + "$")
        self.refuses(2, "if $x", "endif$|")

    def test_ends_and_else_with_operands(self):
        self.refuses(2, "macro m", "endmacro m")
        self.refuses(2, "repeat 1", "endrepeat 1")
        self.refuses(2, "if 1", "endif.")
        self.refuses(2, "if 1", "else if 2", "endif")
        self.refuses(2, "if 1", "else \" ; ", "endif")
        self.refuses(2, "if 1", "endif :")

    def test_ends_that_do_not_fit(self):
        for end in ("endmacro", "endrepeat", "endif", "else"):
            self.refuses(1, end)
        for begin, ends in (
            ("macro m", ("endrepeat", "endif", "else")), ("repeat 1", ("endmacro", "endif", "else")),
            ("if 1", ("endmacro", "endrepeat")), ("ifsame a, b", ("endmacro", "endrepeat")),
        ):
            for end in ends:
                self.refuses(3, "", begin, end)
        self.refuses(3, "if 1", "repeat 1", "else")

    def test_a_second_else(self):
        self.refuses(3, "if 1", "else", "else", "endif")
        self.assertEqual(len(blocks_of(lines("if 1", "else", "if 1", "else", "endif", "endif"))), 2)

    def test_a_macro_inside_of_a_block(self):
        for begin in ("macro m", "repeat 1", "if 1", "ifsame a, b"):
            self.refuses(2, begin, "macro n", "endmacro")

    def test_blocks_that_stay_open(self):
        self.refuses(1, "if 1")
        self.refuses(2, "if 1", "repeat 2", "if 1", "endif")
        self.refuses(1, "macro m", "if 1", "endif", "a")

    def test_the_first_line_counts(self):
        self.refuses(2, "if 1", "endrepeat", "else", "else")
        self.refuses(3, "repeat 2", "if 1", "endrepeat")

    def test_blocks_20_and_21_deep(self):
        for word, end in (("if 1", "endif"), ("repeat 1", "endrepeat")):
            self.assertEqual(len(blocks_of(lines(*[word] * 20, *[end] * 20))), 20)
            self.refuses(21, *[word] * 21, *[end] * 21)
        self.assertEqual(len(blocks_of(lines("macro m", *["if 1"] * 19, *["endif"] * 19, "endmacro"))), 20)
        self.refuses(21, "macro m", *["if 1"] * 20, *["endif"] * 20, "endmacro")
        self.assertEqual(len(blocks_of(lines(*["if 1", "endif"] * 30))), 30)

    def test_lengths_go_ahead(self):
        self.refused(TooLarge, (400,), blocks_of, "endif\n" + "a" * 401)
        self.refused(TooLarge, (20000,), blocks_of, "endif\n" + "a" * 20000)
        self.refused(TooLarge, (20000,), blocks_of, "\n" * 20001)
        self.assertEqual(blocks_of("\n" * 20000), [])
        self.assertEqual(blocks_of("a" * 400), [])


class Bodies(Case):
    def test_blocks_of_a_body(self):
        self.assertEqual(Macro("m", (), ("if 1", "else", "endif")).body, ("if 1", "else", "endif"))
        for line, body in (
            (2, ("endif",)), (3, ("", "macro n", "endmacro")), (2, ("endmacro",)), (3, ("", "if 1")),
            (3, ("repeat 2", "endif")), (2, ("x: set a = 1",)), (3, ("if 1", "if$x", "endif", "endif")),
        ):
            self.refused(BadBlock, (line,), Macro, "m", (("x", None),), body)

    def test_lines_of_the_source_are_told(self):
        self.refused(BadBlock, (12,), Macro, "m", (), ("", "endif"), source="s", line=10)

    def test_a_body_is_looked_at_alone(self):
        self.assertEqual(len(Macro("m", (), ("if 1",) * 20 + ("endif",) * 20).body), 40)
        self.refused(BadBlock, (22,), Macro, "m", (), ("if 1",) * 21 + ("endif",) * 21)
