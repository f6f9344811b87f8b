"""The forms of trees: [29]."""

import itertools

from helpers import LIMIT, Case
from macroasm.errors import BadShift, BadTree, DividedByZero, NoName, NotPlain, TooLarge
from macroasm.expressions import tree_of, value_of
from macroasm.linear import Linear, linear_of

A = Linear.single("a")
B = Linear.single("b")
FORMS = {"a": A, "b": B, "five": Linear(5), "ab": A + B, ".x": A + 1, "zero": A - A}
OPERATORS = "|| && == != < <= > >= | ^ & << >> + - * / mod".split()


def form_of(text):
    """The form of a text, by FORMS."""
    return linear_of(tree_of(text), FORMS)


class Trees(Case):
    def test_forms(self):
        for text, wanted in (
            ("7", Linear(7)), ("a", A), ("a + b * 2 - 3", A + 2 * B - 3), ("-(a - 1)", 1 - A), ("2 * ab", 2 * A + 2 * B),
            ("five * a", 5 * A), ("a * five", 5 * A), (".x - a", Linear(1)), ("'a'", Linear(97)), ("--a", A),
            ("~five", Linear(-6)), ("!five", Linear(0)), ("!(five - 5)", Linear(1)), ("a - (b - a)", 2 * A - B),
        ):
            self.assertEqual(form_of(text), wanted, text)

    def test_plain_by_the_form(self):
        for text, wanted in (
            ("(a - a) / 2", Linear(0)), ("0 * a", Linear(0)), ("a * 0", Linear(0)), ("(0 * a) mod 3", Linear(0)),
            ("~(a - a)", Linear(-1)), ("(ab - a) * (b - b + 2)", 2 * B), ("1 << (a - a)", Linear(1)),
            ("a * zero", Linear(0)), ("zero == 0", Linear(1)),
        ):
            self.assertEqual(form_of(text), wanted, text)
        self.refused(NotPlain, ("a",), form_of, "a == a")
        self.refused(NotPlain, ("a",), form_of, "a / a")
        self.refused(NotPlain, ("a",), form_of, "a - a == a")

    def test_each_operator_with_plain_sides(self):
        for sign, one, other in itertools.product(OPERATORS, (0, 5, 3), (1, 2, 5)):
            text = f"x {sign} y"
            wanted = Linear(value_of(tree_of(text), {"x": one, "y": other}))
            self.assertEqual(linear_of(tree_of(text), {"x": Linear(one), "y": Linear(other)}), wanted)

    def test_each_operator_with_other_sides(self):
        for sign in OPERATORS:
            if sign in ("+", "-"):
                continue
            self.refused(NotPlain, ("a",), form_of, f"ab {sign} b")
            self.refused(NotPlain, ("b",), form_of, f"b {sign} ab")
            if sign != "*":
                self.refused(NotPlain, ("a",), form_of, f"1 {sign} ab")
                self.refused(NotPlain, ("b",), form_of, f"b {sign} 0")
        for sign in ("~", "!"):
            self.refused(NotPlain, ("a",), form_of, f"{sign}ab")

    def test_errors_of_operators(self):
        self.refused(DividedByZero, (), form_of, "five / (a - a)")
        self.refused(DividedByZero, (), form_of, "1 mod zero")
        self.refused(BadShift, (65,), form_of, "zero << 65")
        self.refused(BadShift, (-1,), form_of, "five >> -1")
        self.refused(TooLarge, (LIMIT,), form_of, "five << 64")
        self.refused(TooLarge, (LIMIT,), form_of, f"a * {LIMIT} + a")
        self.refused(TooLarge, (LIMIT,), form_of, f"~{LIMIT}")
        self.refused(TooLarge, (LIMIT,), form_of, f"(a + {LIMIT}) * 2")
        wide = {f"u{number}": Linear.single(f"u{number}") for number in range(17)}
        self.assertEqual(len(linear_of(tree_of("+".join(list(wide)[1:])), wide)), 16)
        self.refused(TooLarge, (16,), linear_of, tree_of("+".join(wide)), wide)

    def test_no_name_ahead_of_all(self):
        self.refused(NoName, ("q",), form_of, "1 / 0 + a * b + q + r")
        self.refused(NoName, (".y",), form_of, "0 * .y")
        self.refused(NoName, ("a.b",), form_of, "(5 - 5) * a.b")

    def test_the_order_of_errors(self):
        self.refused(DividedByZero, (), form_of, "1 / 0 + a * b")
        self.refused(NotPlain, ("a",), form_of, "a * b + 1 / 0")
        self.refused(DividedByZero, (), form_of, "a * (1 / 0)")
        self.refused(NotPlain, ("a",), form_of, "(a / b) / 0")
        self.refused(NotPlain, ("b",), form_of, "b / 0")
        self.refused(NotPlain, ("b",), form_of, "0 << b")
        self.refused(TooLarge, (LIMIT,), form_of, f"(a + {LIMIT} + 1) / a")
        self.refused(BadShift, (70,), form_of, f"{LIMIT} << 70")

    def test_what_is_no_tree(self):
        for wrong in (None, "a", 5, (), A, True):
            self.refused(BadTree, (wrong,), linear_of, wrong, {})

    def test_nothing_changes(self):
        forms = dict(FORMS)
        tree = tree_of("a + b * 2")
        linear_of(tree, forms)
        self.assertEqual((forms, tree.text), (FORMS, "a + b * 2"))

    def test_the_value_is_that_of_the_tree(self):
        values = {"a": 17, "b": -4}
        for text in ("3 * (a - b) + -a * 4", "2 - (a + b) * (7 mod 4)", "-(a + (1 << 3))"):
            self.assertEqual(form_of(text)(values), value_of(tree_of(text), values))
