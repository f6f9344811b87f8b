"""Rings and limits: [24], [25]."""

from helpers import Case
from macroasm.errors import BadLine, BadName, BadOperands, Ring, TooLarge, Trouble
from macroasm.expanding import Expander, expanded
from macroasm.macros import Macro


class Rings(Case):
    def test_a_macro_that_calls_itself(self):
        self.in_trouble("text:2<text:4", Ring, (("m",),), "macro m\nm\nendmacro\nm")

    def test_macros_that_call_one_another(self):
        text = "macro a\nb\nendmacro\nmacro b\nc\nendmacro\nmacro c\nb\nendmacro\na"
        self.in_trouble("text:8<text:5<text:2<text:10", Ring, (("b", "c"),), text)

    def test_the_same_arguments(self):
        text = "macro m p, q = d\nm {a}, {d}\nendmacro\n"
        self.in_trouble("text:2<text:4", Ring, (("m",),), text + "m a")
        self.in_trouble("text:2<text:4", Ring, (("m",),), text + "m {a}, d")
        self.in_trouble("text:2<text:2<text:4", Ring, (("m",),), text + "m b")

    def test_other_arguments(self):
        text = "macro m n\nif $n\nm $($n - 1)\nendif\na $n\nendmacro\nm 3"
        self.expands(["a 0", "a 1", "a 2", "a 3"], text)

    def test_the_same_variables(self):
        text = "macro m\nif n\nset n = n - 1\nm\nendif\na\nendmacro\nset n = 3\nm"
        self.expands(["a"] * 4, text)
        self.in_trouble("text:3<text:3<text:6", Ring, (("m",),), "macro m\nset n = 5\nm\nendmacro\n\nm")
        self.in_trouble("text:3<text:6", Ring, (("m",),), "macro m\nset n = 5\nm\nendmacro\nset n = 5\nm")

    def test_variables_of_the_beginning(self):
        text = "macro m\nset n = 1 - n\nk\nendmacro\nmacro k\nm\nendmacro\nset n = 0\nm"
        self.in_trouble("text:6<text:3<text:6<text:3<text:9", Ring, (("m", "k", "m", "k"),), text)

    def test_what_has_ended_is_no_ring(self):
        self.expands(["a", "a", "a"], "macro m\na\nendmacro\nmacro k\nm\nm\nendmacro\nk\nm")

    def test_through_repeats(self):
        text = "macro m\nrepeat 2\nm\nendrepeat\nendmacro\nm"
        self.in_trouble("text:3<text:2<text:6", Ring, (("m",),), text)

    def test_a_ring_goes_ahead_of_limits(self):
        text = "macro m n\nif $n\nm $($n - 1)\nelse\nm 99\nendif\nendmacro\nm 99"
        with self.assertRaises(Trouble) as caught:
            expanded(text)
        self.assertEqual(caught.exception.cause.names, ("m",) * 100)

    def test_operands_go_ahead_of_a_ring(self):
        self.in_trouble("text:2<text:4", BadOperands, (0,), "macro m\nm 1\nendmacro\nm")


class Open(Case):
    def test_calls(self):
        text = "macro m n\nif $n\nm $($n - 1)\nelse\na\nendif\nendmacro\nm "
        self.expands(["a"], text + "99")
        origin = "<".join(["text:3"] * 100 + ["text:8"])
        self.in_trouble(origin, TooLarge, (100,), text + "100")

    def test_repeats_count_too(self):
        text = "macro m n\nrepeat 1\nif $n\nm $($n - 1)\nelse\na\nendif\nendrepeat\nendmacro\n"
        self.expands(["a"], text + "m 49")
        self.in_trouble("<".join(["text:4", "text:2"] * 50 + ["text:10"]), TooLarge, (100,), text + "m 50")
        repeated = text + "repeat 1\nm 49\nendrepeat"
        origin = "<".join(["text:2"] + ["text:4", "text:2"] * 49 + ["text:11", "text:10"])
        self.in_trouble(origin, TooLarge, (100,), repeated)

    def test_repeats_without_rounds_do_not_count(self):
        text = "macro m n\nif $n\nm $($n - 1)\nelse\nrepeat 0\na\nendrepeat\nb\nendif\nendmacro\nm 99"
        self.expands(["b"], text)
        origin = "<".join(["text:5"] + ["text:3"] * 99 + ["text:11"])
        self.in_trouble(origin, TooLarge, (100,), text.replace("repeat 0", "repeat 1"))

    def test_origins_of_100_open_ones(self):
        text = "macro m n\nif $n\nm $($n - 1)\nelse\na\nendif\nendmacro\nm 99"
        self.assertEqual(str(expanded(text)[0][1]), "<".join(["text:5"] + ["text:3"] * 99 + ["text:8"]))


class Steps(Case):
    def steps(self, text):
        """The steps of a text."""
        expander = Expander(text)
        for _ in expander.rest():
            pass
        return expander.steps_done

    def test_what_is_a_step(self):
        for text, wanted in (
            ("", 1), ("\n\n", 3), ("a\nb", 2), ("set a = 1\n;", 2), ("if 1\na\nelse\nb\nendif", 2),
            ("if 0\na\nelse\nb\nendif", 2),
            ("if 0\na\nendif", 1), ("ifsame a, a\nb\nendif", 2), ("repeat 3\na\nendrepeat", 7),
            ("repeat 3\nendrepeat", 4),
            ("repeat 0\na\nendrepeat", 1), ("macro m\na\n\nendmacro\nm", 4), ("macro m\nendmacro", 0),
            ("macro m\nendmacro\nx: m", 2),
            ("repeat 2\nrepeat 2\na\nendrepeat\nendrepeat", 1 + 2 + 2 * (1 + 2 + 2)),
        ):
            self.assertEqual(self.steps(text), wanted, text)

    def test_10000_steps_and_more(self):
        text = "repeat 4999\n\nendrepeat\n"
        self.assertEqual(self.steps(text), 10000)
        self.in_trouble("text:5", TooLarge, (10000,), text + "\n")
        self.in_trouble("text:5", TooLarge, (10000,), text + "\n$x")
        self.in_trouble("text:4", BadLine, (0,), text + "$x")

    def test_the_line_of_a_round(self):
        self.assertEqual(self.steps("repeat 9999\nendrepeat"), 10000)
        self.in_trouble("text:1", TooLarge, (10000,), "repeat 10000\nendrepeat")
        self.in_trouble("text:4<text:2", TooLarge, (10000,), "\nrepeat 4999\n\n\nendrepeat")
        self.in_trouble("text:2<text:1", TooLarge, (10000,), "repeat 2\nrepeat 4998\n\nendrepeat\nendrepeat")
        self.in_trouble("text:2<text:1", TooLarge, (10000,), "repeat 1\nrepeat 9998\nendrepeat\nendrepeat")

    def test_rounds_without_lines(self):
        expander = Expander("x\nrepeat 5, i\nendrepeat\nrepeat 1, j\nendrepeat\nrepeat 0, k\nendrepeat\ny")
        self.assertEqual([line for line, _ in expander.rest()], ["x", "y"])
        self.assertEqual((expander.steps_done, expander.variables()), (2 + 6 + 2 + 1, {"i": 4, "j": 0}))
        self.assertEqual(self.steps("repeat 4998, i\nendrepeat\nrepeat 4999\nendrepeat\nset i = i"), 10000)
        self.in_trouble("text:3", TooLarge, (10000,), "repeat 4999, i\nendrepeat\nrepeat 5000\nendrepeat")
        self.in_trouble("text:1", TooLarge, (10000,), f"repeat {2 ** 64}, i\nendrepeat\n$x")
        self.in_trouble("text:2<text:1", TooLarge, (10000,), "repeat 10000, i\n; nothing, but a line\nendrepeat")

    def test_calls(self):
        text = "macro m\nendmacro\nrepeat 3333\nm\nendrepeat"
        self.assertEqual(self.steps(text), 10000)
        self.in_trouble("text:3", TooLarge, (10000,), text.replace("3333", "3334"))
        self.in_trouble("text:5<text:4", TooLarge, (10000,), "\n" + text)
        self.in_trouble("text:6<text:5", TooLarge, (10000,), "\n\n" + text)

    def test_operands_of_a_call_go_ahead(self):
        text = "macro m\nendmacro\nrepeat 4998\n\nendrepeat\n\n\nm 1"
        self.in_trouble("text:8", BadOperands, (0,), text)
        self.in_trouble("text:8", TooLarge, (10000,), text.replace(" 1", ""))


class Variables(Case):
    def test_100_variables_and_101(self):
        text = "repeat {}, i\nset v$(i) = i\nendrepeat"
        expander = Expander(text.format(99))
        self.assertEqual(list(expander.rest()), [])
        self.assertEqual(len(expander.variables()), 100)
        self.in_trouble("text:2<text:1", TooLarge, (100,), text.format(100))

    def test_the_counter_of_a_repeat(self):
        text = "repeat 99, i\nset v$(i) = i\nendrepeat\nrepeat 1, {}\na\nendrepeat"
        self.expands(["a"], text.format("i"))
        self.in_trouble("text:4", TooLarge, (100,), text.format("j"))
        text = text.replace("1, {}", "1").replace("a\n", "set k = 1\n").format("i")
        self.in_trouble("text:5<text:4", TooLarge, (100,), text)

    def test_old_ones_are_set_again(self):
        self.expands(["a"], "repeat 99, i\nset v$(i) = i\nendrepeat\nset v5 = 7\na")


class PlainLines(Case):
    def test_2000_and_2001(self):
        self.assertEqual(len(expanded("repeat 2000\na\nendrepeat")), 2000)
        self.in_trouble("text:2<text:1", TooLarge, (2000,), "repeat 2001\na\nendrepeat")
        self.in_trouble("text:4", TooLarge, (2000,), "repeat 2000\na\nendrepeat\nb")
        self.assertEqual(len(expanded("repeat 2000\na\nendrepeat\n\nset a = 1")), 2000)

    def test_labels_of_calls(self):
        text = "macro m\nendmacro\nrepeat 2000\nx: m\nendrepeat"
        self.assertEqual(len(expanded(text)), 2000)
        self.in_trouble("text:4<text:3", TooLarge, (2000,), text.replace("2000", "2001"))
        full = "macro m\nendmacro\nrepeat 2000\na\nendrepeat\nx: m 1"
        self.in_trouble("text:6", TooLarge, (2000,), full)


class Texts(Case):
    def test_20000_characters(self):
        text = ("a" * 399 + "\n") * 50
        self.assertEqual(len(text), 20000)
        self.assertEqual(len(expanded(text)), 50)
        self.refused(TooLarge, (20000,), Expander, text + "a")
        self.refused(TooLarge, (20000,), expanded, text + "\n")
        self.refused(TooLarge, (20000,), expanded, "a" * 20001)

    def test_lines(self):
        self.expands(["a" * 400], "a" * 400)
        self.refused(TooLarge, (400,), expanded, "b\n" + " " * 401)
        self.refused(BadName, ("",), expanded, "a" * 401, source="")

    def test_libraries_are_no_part_of_the_text(self):
        macro = Macro("m", (), ("a" * 399,) * 100)
        self.assertEqual(len(expanded("m", library={"m": macro})), 100)
