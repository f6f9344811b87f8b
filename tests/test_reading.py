"""Reading expressions: [10], [11], [12]."""

import itertools

from helpers import LIMIT, Case
from macroasm.errors import BadLine, TooLarge
from macroasm.expressions import tree_of
from macroasm.trees import LEVELS, Joined, Named, Number, Signed

OPERATORS = (
    ("||",), ("&&",), ("==", "!=", "<", "<=", ">", ">="), ("|",), ("^",), ("&",), ("<<", ">>"), ("+", "-"),
    ("*", "/", "mod"),
)
LEVEL_OF = {sign: level for level, signs in enumerate(OPERATORS, 1) for sign in signs}
A, B, C = Named("a"), Named("b"), Named("c")


class Atoms(Case):
    def test_each_kind(self):
        for text, tree in (
            ("7", Number(7)), ("0x10", Number(16)), ("0b11", Number(3)), ("'a'", Number(97)), ("'\\n'", Number(10)),
            ("a", A), ("a.b@3", Named("a.b@3")), (".x", Named(".x")), ("if", Named("if")), ("(a)", A),
            ("((7))", Number(7)),
            (str(LIMIT), Number(LIMIT)), (" a ; b", A),
        ):
            self.assertEqual(tree_of(text), tree)

    def test_signs_in_a_row(self):
        self.assertEqual(tree_of("-~!a"), Signed("-", Signed("~", Signed("!", A))))
        self.assertEqual(tree_of("- - a"), Signed("-", Signed("-", A)))
        self.assertEqual(tree_of("a - -b"), Joined(A, "-", Signed("-", B)))
        self.assertEqual(tree_of("a--b"), Joined(A, "-", Signed("-", B)))
        self.assertEqual(tree_of("-(a)"), Signed("-", A))

    def test_signs_are_stronger_than_operators(self):
        for sign in LEVEL_OF:
            self.assertEqual(tree_of(f"-a {sign} !b"), Joined(Signed("-", A), sign, Signed("!", B)))


class Levels(Case):
    def test_all_operators_are_there(self):
        self.assertEqual(LEVELS, LEVEL_OF)

    def test_each_operator_behind_each(self):
        for one, other in itertools.product(LEVEL_OF, LEVEL_OF):
            text = f"a {one} b {other} c"
            if LEVEL_OF[one] == LEVEL_OF[other] == 3:
                self.refused(BadLine, (len(f"a {one} b "),), tree_of, text)
            elif LEVEL_OF[other] > LEVEL_OF[one]:
                self.assertEqual(tree_of(text), Joined(A, one, Joined(B, other, C)))
            else:
                self.assertEqual(tree_of(text), Joined(Joined(A, one, B), other, C))

    def test_brackets_on_both_sides(self):
        for one, other in itertools.product(LEVEL_OF, LEVEL_OF):
            self.assertEqual(tree_of(f"(a {one} b) {other} c"), Joined(Joined(A, one, B), other, C))
            self.assertEqual(tree_of(f"a {one} (b {other} c)"), Joined(A, one, Joined(B, other, C)))

    def test_comparisons_in_a_row(self):
        self.refused(BadLine, (6,), tree_of, "a < b < c")
        self.refused(BadLine, (10,), tree_of, "a < b + c == d")
        self.refused(BadLine, (13,), tree_of, "(a < b) == c != d")
        self.refused(BadLine, (7,), tree_of, "(a < b < c)")
        self.refused(BadLine, (15,), tree_of, "a < b || c < d == 1 && e")
        self.assertEqual(tree_of("a < b && b < c"), Joined(Joined(A, "<", B), "&&", Joined(B, "<", C)))
        self.assertEqual(tree_of("(a < b) < c"), Joined(Joined(A, "<", B), "<", C))
        self.assertEqual(tree_of("a < -(b < c)"), Joined(A, "<", Signed("-", Joined(B, "<", C))))


class WrongTokens(Case):
    def test_where_an_atom_stands(self):
        for wrong in (")", "*", "mod", "==", "&&", ",", "{", "}", ":", "=", "..", "\"a\"", "<<"):
            self.refused(BadLine, (0,), tree_of, wrong)
            for front in ("a + ", "(", "-", "(a * (", "a mod "):
                self.refused(BadLine, (len(front),), tree_of, front + wrong + " a)")

    def test_where_an_operator_stands(self):
        for wrong in ("b", "7", "'a'", ".x", "(", "~", "!", ",", "{", "}", ":", "=", "..", "\"a\"", ")"):
            self.refused(BadLine, (2,), tree_of, "a " + wrong)
            self.refused(BadLine, (5,), tree_of, "-(a) " + wrong + " b")

    def test_empty_brackets(self):
        self.refused(BadLine, (1,), tree_of, "()")
        self.refused(BadLine, (3,), tree_of, "a+()")

    def test_ends_that_come_too_early(self):
        for text in ("", "  ", "a +", "-", "(", "(a", "((a)", "a mod ", "(a + ", "a + ; b", "(a ; )", "; a", " ;"):
            self.refused(BadLine, (len(text),), tree_of, text)

    def test_own_names(self):
        self.refused(BadLine, (4,), tree_of, "a + @b")

    def test_no_lines(self):
        for value in (None, True, 3, ("a",), ["a"], "a\n"):
            self.refused(BadLine, (0,), tree_of, value)
        self.refused(TooLarge, (400,), tree_of, "a" * 401)


class Limits(Case):
    def test_tokens(self):
        self.assertEqual(len(tree_of("-a" + "+a" * 99)), 200)
        self.refused(TooLarge, (200,), tree_of, "a" + "+a" * 100)
        self.refused(TooLarge, (200,), tree_of, "(a)" + "+a" * 99)
        self.assertEqual(len(tree_of("(a)" + "+a" * 98 + ";+a")), 197)

    def test_depth_of_brackets(self):
        self.assertEqual(tree_of("(" * 20 + "a" + ")" * 20), A)
        self.refused(TooLarge, (20,), tree_of, "(" * 21 + "a" + ")" * 21)

    def test_depth_of_signs(self):
        self.assertEqual(tree_of("-" * 20 + "a").text, "-" * 20 + "a")
        self.refused(TooLarge, (20,), tree_of, "-" * 21 + "a")

    def test_depth_of_both(self):
        self.assertEqual(len(tree_of("-(" * 10 + "a" + ")" * 10)), 11)
        self.assertEqual(len(tree_of("(-" * 10 + "a" + ")" * 10)), 11)
        self.refused(TooLarge, (20,), tree_of, "-(" * 10 + "-a" + ")" * 10)
        self.refused(TooLarge, (20,), tree_of, "-(" * 10 + "(a)" + ")" * 10)
        self.refused(TooLarge, (20,), tree_of, "-(a + " * 10 + "~a" + ")" * 10)

    def test_depth_ends_behind_the_operand(self):
        deep = Signed("-", A)
        for _ in range(19):
            deep = Signed("-", deep)
        self.assertEqual(tree_of("-" * 20 + "a + " + "-" * 20 + "a"), Joined(deep, "+", deep))
        self.assertEqual(tree_of("(" * 20 + "a" + ")" * 20 + "+" + "-" * 20 + "a"), Joined(A, "+", deep))
        self.assertEqual(tree_of("-(a) - (" + "-" * 19 + "b)").text, "-a - " + "-" * 19 + "b")
        self.refused(TooLarge, (20,), tree_of, "-(a) - (" + "-" * 20 + "b)")
        self.refused(TooLarge, (20,), tree_of, "-(a - (" + "-" * 18 + "b))")

    def test_which_one_comes_first(self):
        deep = "(" * 21
        self.refused(BadLine, (0,), tree_of, ")" + deep)
        self.refused(TooLarge, (20,), tree_of, deep + ")")
        self.refused(TooLarge, (20,), tree_of, deep)
        self.refused(BadLine, (20,), tree_of, "(" * 20 + ")")
        self.refused(TooLarge, (200,), tree_of, ")" + "a" + "+a" * 100)
        self.refused(TooLarge, (200,), tree_of, "(" * 201)
        self.refused(BadLine, (399,), tree_of, "(" * 398 + " #")
        self.refused(TooLarge, (LIMIT,), tree_of, "(" * 201 + "9" * 40)
        self.refused(BadLine, (2,), tree_of, "a (" + deep)
        self.refused(BadLine, (4,), tree_of, "a b $")
