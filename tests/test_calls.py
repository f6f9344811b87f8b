"""Calls and directives: [21], [23]."""

from helpers import LIMIT, Case
from macroasm.errors import BadLine, BadOperands, DividedByZero, NoName, TooLarge
from macroasm.expanding import Expander
from macroasm.macros import Macro, macros_of

MACRO = "macro m a, b = d\n$a-$b\nendmacro\n"


class Calls(Case):
    def test_operands(self):
        self.expands(["1-2", "1-d", "1-d", "-", "1, 2-{3}"], MACRO + "m 1, 2\nm 1\nm 1,\nm {}, {}\nm {1, 2}, {{3}}")

    def test_labels(self):
        for label in ("x", ".x"):
            self.expands([label + ":", "1-d"], MACRO + f"{label}: m 1")
        self.expands(["x:", "1-d"], MACRO + "  x:m 1 ; c")
        self.expands(["x@1:", "1-d"], MACRO + "macro n\n@x: m 1\nendmacro\nn")

    def test_the_label_comes_ahead_of_errors(self):
        expander = Expander(MACRO + "x: m", source="s")
        text, origin = expander.step()
        self.assertEqual((text, str(origin), expander.calls_begun), ("x:", "s:4", 0))
        self.in_trouble("text:4", BadOperands, (0,), MACRO + "x: m")

    def test_what_is_no_call(self):
        rows = ["m = 5", "m=5", "m.x 5", "x m", "m: y", ".m 1", "m.x = 5", "5 m", "mm 1", "m1", "x: y m", "M 1"]
        self.expands(rows, MACRO + "\n".join(rows))
        self.expands(["m@1 5"], MACRO + "macro n\n@m 5\nendmacro\nn")

    def test_what_is_a_call(self):
        for line, wanted in (
            ("m == 5", "== 5-d"), ("m(1)", "(1)-d"), ("m\"1\"", "\"1\"-d"), ("m'1'", "'1'-d"), ("m..", "..-d"),
            ("m{1}", "1-d"), ("m:m 1", "1-d"), ("x: m = 5", "= 5-d"), ("m #", "#-d"), ("$|m 1", "1-d"),
            ("m 1 ; 2, 3, 4", "1-d"),
        ):
            self.assertEqual([text for text, _ in Expander(MACRO + line).rest()][-1], wanted)

    def test_comments_of_bodies(self):
        body = "byte $p ; $p$p$p\n  ; $p @ $q\nif 1 ; $p$p$p\nc \";$p\"\nendif ; $p\n"
        text = "macro m p\n" + body + "endmacro\n"
        line = "m " + "x" * 150
        wanted = ["byte " + "x" * 150, "c \";" + "x" * 150 + "\""]
        self.expands(wanted, text + line)
        self.expands(wanted, line, library=macros_of(text))
        self.expands(wanted, line, library={"m": Macro("m", (("p", None),), tuple(body.split("\n")))})
        self.expands(["byte \";\""], "macro m p\nbyte $p ; $p\nendmacro\nm \";\"")

    def test_macros_are_known_everywhere(self):
        self.expands(["b"], "one\nmacro one\ntwo\nendmacro\nmacro two\nb\nendmacro")

    def test_the_rest(self):
        text = "macro m a, r..\n$a|$|$# $r\nendmacro\n"
        self.expands(["1|0", "1|1 2", "1|3 2, {3, 4}, {}", "1|2 ,"], text + "m 1\nm 1, 2\nm 1, 2, {3, 4}, {}\nm 1,,")

    def test_too_few_and_too_many(self):
        for line, index in (
            ("m", 0), ("m ,1", 0), ("m 1, 2, 3", 2), ("m 1, 2,", 2), ("m $$, 2, 3", 0), ("m 1, $$x", 1), ("m , $$", 0),
        ):
            self.in_trouble("text:4", BadOperands, (index,), MACRO + line)
        self.in_trouble("text:3", BadOperands, (0,), "macro m\nendmacro\nm 1")
        self.in_trouble("text:3", BadOperands, (1,), "macro m r..\nendmacro\nm 1, \"$$\"")

    def test_brackets(self):
        self.in_trouble("text:4", BadLine, (4,), MACRO + "  m (1 ")
        self.in_trouble("text:4", BadLine, (2,), MACRO + "m )")

    def test_numbers_as_they_begin(self):
        text = "macro m\na $@\nendmacro\nmacro n\nb $@\nm\nc $@\nendmacro\n"
        self.expands(["b 1", "a 2", "c 1", "a 3", "b 4", "a 5", "c 4"], text + "n\nm\nn")

    def test_lines_that_become_too_long(self):
        text = f"macro m a\n\n$a-{'x' * 300}\n$a-{'y' * 397}\nendmacro\n"
        self.in_trouble("text:4<text:6", TooLarge, (400,), text + f"m {'1' * 3}")
        self.in_trouble("text:3<text:6", TooLarge, (400,), text + f"m {'1' * 100}")
        text = "macro m a\nif 0\n$a$a\nendif\nendmacro\n"
        self.expands([], text + f"m {'1' * 200}")
        self.in_trouble("text:3<text:6", TooLarge, (400,), text + f"m {'1' * 201}")

    def test_blocks_of_a_body_are_those_that_were_written(self):
        text = "macro m a\nif $a\none\nelse\ntwo\nendif\nendmacro\n"
        self.expands(["one", "two"], text + "m 1\nm 0")
        self.expands([], "macro m a\nif 0\n$a\nendif\nendmacro\nm endif")


class Conditions(Case):
    def test_if(self):
        for value, wanted in ((1, ["b", "d"]), (-5, ["b", "d"]), (LIMIT, ["b", "d"]), (0, ["d"])):
            self.expands(wanted, f"if {value}\nb\nendif\nd")
        for value, wanted in ((1, ["b", "d"]), (0, ["c", "d"])):
            self.expands(wanted, f"if({value})\nb\nelse\nc\nendif\nd")

    def test_what_is_left_out_is_not_looked_at(self):
        self.expands(["b"], "if 1\nb\nelse\n$x\nif\nendif\nset\nrepeat\nendrepeat\n\"\nendif")
        self.expands([], "if 0\n$x\nif\nelse\nendif\nset 5\nm\n@\nendif")

    def test_nested(self):
        text = "if {}\nif {}\na\nelse\nb\nendif\nelse\nif {}\nc\nelse\nd\nendif\nendif"
        for one, other, wanted in ((1, 1, "a"), (1, 0, "b"), (0, 1, "c"), (0, 0, "d")):
            self.expands([wanted], text.format(one, other, other))

    def test_ifsame(self):
        for operands, wanted in (
            ("a, a", "b"), ("a, {a}", "b"), ("{a}, {a}", "b"), (",", "b"), (", {}", "b"), ("a, A", "c"), ("a, b", "c"),
            ("{{a}}, {a}", "c"), ("1, 01", "c"), ("a b, a  b", "c"), ("\"a\", \"a\"", "b"),
            ("{a, b}, {a, b}", "b"), ("{ a}, a", "c"),
        ):
            self.expands([wanted], f"ifsame {operands}\nb\nelse\nc\nendif")

    def test_wrong_operands(self):
        for line, index in (
            ("if", 0), ("if 1, 2", 1), ("if ,", 1), ("if 1,", 1), ("ifsame", 0), ("ifsame a", 1), ("ifsame a, b, c", 2),
            ("ifsame a, b,", 2), ("if 1/0, 2", 1),
        ):
            self.in_trouble("text:1", BadOperands, (index,), line + "\nendif")

    def test_wrong_expressions(self):
        self.in_trouble("text:1", BadLine, (2,), "  if   1 2\nendif")
        self.in_trouble("text:1", BadLine, (3,), "if 1 +\nendif")
        self.in_trouble("text:1", BadLine, (7,), "if 1, (\nendif")
        self.in_trouble("text:1", NoName, ("x",), "if x\nendif")
        self.in_trouble("text:1", DividedByZero, (), "if 1/0\nendif")
        self.in_trouble("text:2<text:5", NoName, ("x@1",), "macro m\nif @x\nendif\nendmacro\nm")


class Settings(Case):
    def test_values(self):
        self.expands(["3 4"], "set a = 3\nset b=a+1\n$(a) $(b)")
        self.expands(["5"], "set a = 3\nset a = a + 2\n$(a)")
        self.expands(["0"], "set a = 1\nset a = a == 2\n$(a)")
        self.expands(["-7"], "set a=-7 ; = 3\n$(a)")

    def test_in_calls_too(self):
        self.expands(["8"], "macro m a\nset n = $a\nendmacro\nm 8\n$(n)")

    def test_wrong_operands(self):
        for line, index in (
            ("set", 0), ("set a", 0), ("set a 5", 0), ("set 5 = 5", 0), ("set a.b = 5", 0), ("set .a = 5", 0),
            ("set = 5", 0),
            ("set if = 5", 0), ("set mod = 5", 0), ("set byte = 5", 0), ("set a = 5, 6", 1), ("set a, b = 5", 1),
            ("set a = 5,", 1),
            ("set a == 5", 0), ("set a b = 5", 0), ("set (a) = 5", 0), ("set if = x", 0), ("set ,", 1),
            ("set a < 5", 0),
            ("set " + "a" * 41 + " = 5", 0),
        ):
            self.in_trouble("text:1", BadOperands, (index,), line)

    def test_wrong_expressions(self):
        self.in_trouble("text:1", BadLine, (0,), "set a =")
        self.in_trouble("text:1", BadLine, (2,), "set a =   1 2")
        self.in_trouble("text:1", BadLine, (3,), "set a = 1 +")
        self.in_trouble("text:1", BadLine, (2,), "set a = 5 = 6")
        self.in_trouble("text:1", NoName, ("a",), "set a = a")
        self.in_trouble("text:1", BadLine, (8,), "set a = )")


class Repeats(Case):
    def test_counts(self):
        for count, wanted in ((0, 0), (-1, 0), (-LIMIT, 0), (1, 1), (3, 3)):
            self.expands(["a"] * wanted + ["b"], f"repeat {count}\na\nendrepeat\nb")

    def test_a_counter(self):
        self.expands(["0", "1", "2", "last 2"], "repeat 3, i\n$(i)\nendrepeat\nlast $(i)")
        self.expands(["0 5", "1 6"], "repeat 2, i\nset n = i + 5\n$(i) $(n)\nendrepeat")

    def test_the_counter_is_set_ahead_of_each_round(self):
        self.expands(["5", "5", "5"], "repeat 3, i\nset i = 5\n$(i)\nendrepeat")

    def test_a_counter_without_rounds(self):
        self.in_trouble("text:3", NoName, ("i",), "repeat 0, i\nendrepeat\n$(i)")
        self.expands(["7"], "set i = 7\nrepeat 0, i\nendrepeat\n$(i)")

    def test_the_count_is_worked_out_once(self):
        self.expands(["a", "a"], "set n = 2\nrepeat n\na\nset n = 9\nendrepeat")
        self.expands(["a", "a"], "set n = 2\nrepeat n, n\na\nendrepeat")

    def test_nested(self):
        self.expands(["0 0", "0 1", "1 0", "1 1"], "repeat 2, i\nrepeat 2, j\n$(i) $(j)\nendrepeat\nendrepeat")
        self.expands(["1", "2", "2"], "repeat 3, i\nrepeat i\n$(i)\nendrepeat\nendrepeat")

    def test_conditions_in_rounds(self):
        self.expands(["0", "2"], "repeat 3, i\nif i mod 2 == 0\n$(i)\nelse\nendif\nendrepeat")
        self.expands(["0", "x", "2"], "repeat 3, i\nif i mod 2\nx\nelse\n$(i)\nendif\nendrepeat")

    def test_wrong_operands(self):
        for line, index in (
            ("repeat", 0), ("repeat 1, i, j", 2), ("repeat 1, 5", 1), ("repeat 1,", 1), ("repeat 1, if", 1),
            ("repeat 1, a.b", 1),
            ("repeat x, 5", 1), ("repeat 1 2, mod", 1), ("repeat , , ,", 2), ("repeat 0, .a", 1),
        ):
            self.in_trouble("text:1", BadOperands, (index,), line + "\nendrepeat")

    def test_wrong_expressions(self):
        self.in_trouble("text:1", BadLine, (0,), "repeat , i\nendrepeat")
        self.in_trouble("text:1", BadLine, (2,), "repeat 1 2, i\nendrepeat")
        self.in_trouble("text:1", NoName, ("i",), "repeat i, i\nendrepeat")
