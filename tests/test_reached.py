"""What becomes of a reached line: [20]."""

from helpers import LIMIT, Case
from macroasm.errors import BadCall, BadLine, BadShift, DividedByZero, NoName, TooLarge


class Plain(Case):
    def test_comments_and_blanks_are_cut(self):
        self.expands(["a", "b \";\"", "c"], "  a  \n b \";\" ; x\n\n   \n;\nc;$x @ 9@")

    def test_quotes_are_looked_at(self):
        self.in_trouble("text:2", BadLine, (4,), "a\nb \"x")
        self.in_trouble("text:1", BadLine, (4,), "b 'xy'")
        self.in_trouble("text:1", BadLine, (3,), "b'$$'")

    def test_all_else_is_let_through(self):
        self.expands(["# [ 9a )", "a.b: ..", "5", "x = = ("], "# [ 9a )\na.b: ..\n5\nx = = (")


class Values(Case):
    def test_values(self):
        self.expands(["a 7", "b-3", "c5d", "\"12\"", "0"], "a $(1+2*3)\nb$(1-4)\nc$( 5 )d\n\"$(3*4)\"\n$(0)")
        self.expands([str(LIMIT), str(-LIMIT)], f"$({LIMIT})\n$(-{LIMIT})")

    def test_variables_alone(self):
        self.expands(["a 10"], "set n = 5\na $(n*2)")
        self.in_trouble("text:2", NoName, ("x",), "x:\na $(x)")
        self.in_trouble("text:2", NoName, ("a.n",), "set n = 5\na $(a.n)")

    def test_up_to_the_bracket_that_closes(self):
        self.expands(["a 9)"], "a $((1+2)*(3)))")
        self.expands(["a 40 )"], "a $('(') )")
        self.expands(["a 41"], "a $(')')")
        self.expands(["a 39"], "a $('\\'')")
        self.expands(["a 1 2 3"], "a $(1) $(2) $(3)")

    def test_in_labels(self):
        self.expands(["l3: a", "l3_4:"], "l$(3): a\nl$(3)_$(4):")

    def test_what_does_not_close(self):
        for line, column in (
            ("a $(", 2), ("a $(1", 2), ("a $((1)", 2), ("a $('(' ", 2), ("$(1) $(2", 5), ("a $(1 ; )", 2),
        ):
            self.in_trouble("text:1", BadLine, (column,), line)

    def test_columns_of_expressions(self):
        for line, column in (
            ("a $()", 0), ("a $(  )", 0), ("a $(1 +)", 3), ("a $( 1 + )", 4), ("a $(  1 $)", 2), ("a $( 1 2 )", 2), ("a $(@x)", 0),
            ("$(x $(1))", 2),
        ):
            self.in_trouble("text:1", BadLine, (column,), line)

    def test_errors_of_expressions(self):
        self.in_trouble("text:1", DividedByZero, (), "a $(1/0)")
        self.in_trouble("text:1", BadShift, (65,), "a $(1<<65)")
        self.in_trouble("text:1", TooLarge, (LIMIT,), f"a $({LIMIT}+1)")
        self.in_trouble("text:1", TooLarge, (LIMIT,), f"a $({LIMIT + 1})")
        self.in_trouble("text:1", TooLarge, (20,), "a $(" + "(" * 21 + "1" + ")" * 22)

    def test_from_the_left(self):
        self.in_trouble("text:1", DividedByZero, (), "a $(1/0) $x")
        self.in_trouble("text:1", BadLine, (2,), "a $x $(1/0)")


class Dollars(Case):
    def test_two_and_a_bar(self):
        self.expands(["$x", "ab", "\"$\" b", "$(1)", "$$"], "$$x\na$|b\n\"$$\" $|b\n$$(1)\n$$$$")

    def test_once(self):
        self.expands(["$|", "$$(1)1"], "$$|\n$$$$(1)$(1)")

    def test_empty_lines(self):
        self.expands(["b"], "$|\n  $|  ; a\n$| b $|")

    def test_all_others(self):
        for line, column in (
            ("$", 0), ("  a $", 2), ("a $x", 2), ("a $# ", 2), ("a \"$\"", 3), ("a '$'", 3), ("a $@", 2), ("$$$", 2),
            ("$$ $|$x", 5), ("  $(1)$x", 4), ("a $5", 2), ("a $ (1)", 2),
        ):
            self.in_trouble("text:1", BadLine, (column,), line)


class OwnNames(Case):
    def test_in_calls(self):
        text = "macro m\n@a: b @a, (@_c)@d \"@a\" '@' ; @e\nendmacro\nm\nx: m"
        self.expands(["a@1: b a@1, (_c@1)d@1 \"@a\" '@'", "x:", "a@2: b a@2, (_c@2)d@2 \"@a\" '@'"], text)

    def test_outside_of_calls(self):
        self.in_trouble("text:1", BadLine, (2,), "a @b")
        self.in_trouble("text:1", BadLine, (0,), "  @b: c")
        self.in_trouble("text:3", BadLine, (2,), "macro m\nendmacro\na @b\nm")
        self.expands(["a \"@b\" '@'"], "a \"@b\" '@'")

    def test_wrong_ones(self):
        for line, column in (
            ("a@b", 1), (" a @", 2), ("a @ b", 2), ("@5", 0), ("@5 $$", 0), ("@@a", 0), ("9@a", 1), ("_@a", 1), ("a @b, c@d", 7),
            ("x@1", 1), ("a $|@5", 4),
        ):
            self.in_trouble("text:1", BadLine, (column,), line)

    def test_wrong_ones_go_ahead_of_dollars(self):
        self.in_trouble("text:1", BadLine, (4,), "$x a@b")
        self.in_trouble("text:1", BadLine, (6,), "$(1/0)@")
        self.in_trouble("text:1", BadLine, (3,), "@a $x")
        self.in_trouble("text:1", DividedByZero, (), "@a $(1/0)")

    def test_the_innermost_call_counts(self):
        text = "macro in p\nb @x, $p\nendmacro\nmacro out\na @x\nin @x\nc @x\nendmacro\nout"
        self.expands(["a x@1", "b x@2, x@1", "c x@1"], text)

    def test_in_repeats(self):
        self.expands(["a@1", "a@1", "a@2", "a@2"], "macro m\nrepeat 2\n@a\nendrepeat\nendmacro\nm\nm")
        self.expands(["a@1", "a@2"], "macro m\n@a\nendmacro\nrepeat 2\nm\nendrepeat")

    def test_made_names_come_with_arguments(self):
        text = "macro in p\n$p: b $p, \"$p\" x.$p\nendmacro\nmacro out\nin @x\nin {@x}\nendmacro\nout"
        line = "x@1: b x@1, \"x@1\" x.x@1"
        self.expands([line, line], text)

    def test_numbers_of_calls(self):
        self.expands(["a 1 b@1", "a 2 b@2"], "macro m\na $@ @b\nendmacro\nm\nm")


class Lengths(Case):
    def test_behind_what_is_written(self):
        long = "a" * 380
        self.expands(["b " + long + "1" * 18], f"set n = {'1' * 18}\nb {long}$(n)")
        self.in_trouble("text:2", TooLarge, (400,), f"set n = {'1' * 19}\nb {long}$(n)")
        self.expands(["a" * 396 + " b@1"], f"macro m\n{'a' * 396} @b\nendmacro\nm")
        self.in_trouble("text:2<text:4", TooLarge, (400,), f"macro m\n{'a' * 397} @b\nendmacro\nm")
        self.expands(["a" * 396], "a" * 396 + "$|$|")

    def test_ahead_of_the_word(self):
        self.in_trouble("text:2", TooLarge, (400,), f"set n = {'1' * 19}\n$|if {'a' * 385}$(n)")


class Words(Case):
    def test_what_has_become_a_directive(self):
        for word in ("macro", "endmacro", "repeat", "endrepeat", "if", "ifsame", "else", "endif", "set"):
            for line in (f"$|{word} 1", f"{word[0]}$|{word[1:]}", f"x: $|{word} = 5", f"$|{word} = 5", f"$|{word}.x"):
                self.in_trouble("text:1", BadCall, (word,), line)

    def test_by_arguments(self):
        text = "macro m p\n$p 1\nendmacro\nm "
        self.in_trouble("text:2<text:4", BadCall, ("if",), text + "if")
        self.in_trouble("text:2<text:4", BadCall, ("set",), text + "set x =")
        self.in_trouble("text:2<text:4", BadCall, ("endif",), text + "{x: endif}")
        self.expands(["ifs 1"], text + "ifs")

    def test_what_is_no_word(self):
        self.expands(["a if", "5 if", ".if", "if:", "if: a"], "a $|if\n5 $|if\n$|.if\n$|if:\n$|if: a")
