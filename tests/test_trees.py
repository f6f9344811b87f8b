"""Trees: their texts, replacing and folding: [14], [15], [16], [17]."""

import itertools
import random

from helpers import LIMIT, Case
from macroasm.errors import BadLine, BadName, BadNumber, BadTree, LimitTrouble, TooLarge, ValueTrouble
from macroasm.expressions import plain_of, tree_of, value_of
from macroasm.lines import tokens
from macroasm.trees import LEVELS, Joined, Named, Number, Signed, Tree

A, B, C = Named("a"), Named("b"), Named("c")
NO_TREES = (None, 3, True, "a", ("a",), ["a"], {}, Tree)


def many(count):
    """A tree of count names and so many tokens, less one, again."""
    return tree_of("a" + "+a" * (count - 1))


def some_tree(chance, depth):
    """A tree of some shape."""
    kind = chance.randrange(6) if depth > 0 else chance.randrange(2)
    if kind == 0:
        return Number(chance.choice((0, 1, 2, 3, 64, 65, LIMIT)))
    if kind == 1:
        return Named(chance.choice(("a", "b", ".c", "d.e@1")))
    if kind == 2:
        return Signed(chance.choice("-~!"), some_tree(chance, depth - 1))
    sign = chance.choice(list(LEVELS))
    return Joined(some_tree(chance, depth - 1), sign, some_tree(chance, depth - 1))


def some_trees(count):
    """Trees of many shapes, always the same ones."""
    chance = random.Random(5)
    return [some_tree(chance, 4) for _ in range(count)]


def outcome(tree, names):
    """The value of a tree, or its error."""
    try:
        return value_of(tree, names)
    except (ValueTrouble, LimitTrouble) as error:
        return type(error), tuple(vars(error).values())


class Texts(Case):
    def test_each_pair_of_operators(self):
        for inner, outer in itertools.product(LEVELS, LEVELS):
            within, around = LEVELS[inner], LEVELS[outer]
            left = f"a {inner} b" if within > around or within == around != 3 else f"(a {inner} b)"
            self.assertEqual(Joined(Joined(A, inner, B), outer, C).text, f"{left} {outer} c")
            right = f"b {inner} c" if within > around else f"(b {inner} c)"
            self.assertEqual(Joined(A, outer, Joined(B, inner, C)).text, f"a {outer} {right}")

    def test_each_operator_behind_signs(self):
        for sign, operator in itertools.product("-~!", LEVELS):
            self.assertEqual(Signed(sign, Joined(A, operator, B)).text, f"{sign}(a {operator} b)")
            self.assertEqual(Joined(Signed(sign, A), operator, Signed(sign, B)).text, f"{sign}a {operator} {sign}b")

    def test_signs_and_atoms(self):
        self.assertEqual(Signed("-", Signed("-", Signed("!", Number(3)))).text, "--!3")
        self.assertEqual(tree_of("007 + 0x10").text, "7 + 16")
        self.assertEqual(tree_of("'a'+(.x)").text, "97 + .x")
        self.assertEqual(Named("if.mod").text, "if.mod")

    def test_the_text_is_read_as_the_same_tree(self):
        for tree in some_trees(300):
            self.assertEqual(tree_of(tree.text), tree)
            self.assertEqual(len(tree), len(list(tokens(tree.text, made=True))))

    def test_no_pair_of_brackets_is_needless(self):
        for tree in some_trees(300):
            for text in without_a_pair(tree.text):
                try:
                    self.assertNotEqual(tree_of(text), tree)
                except BadLine:
                    pass

    def test_len(self):
        for text, wanted in (("7", 1), ("a.b", 1), ("-a", 2), ("a+b", 3), ("((a+b))*c", 7), ("-(a mod b)", 6)):
            self.assertEqual(len(tree_of(text)), wanted)


def without_a_pair(text):
    """The text without each one pair of its brackets."""
    waiting = []
    for column, sign in enumerate(text):
        if sign == "(":
            waiting.append(column)
        if sign == ")":
            begin = waiting.pop()
            yield f"{text[:begin]} {text[begin + 1:column]} {text[column + 1:]}"


class Making(Case):
    def test_numbers(self):
        for number in (0, 1, LIMIT):
            self.assertEqual((Number(number).number, Number(number).text), (number, str(number)))
        for given in (-1, LIMIT + 1, True, False, None, "1", (1,), A):
            self.refused(BadNumber, (given,), Number, given)

    def test_names(self):
        for name in ("a", "a.b", ".a", "a@1", "if", ".mod", "a.mod", ".".join(["a" * 40 + "@123456789"] * 8)):
            self.assertEqual((Named(name).name, Named(name).text), (name, name))
        for given in ("mod", "", "@a", "a@0", ".a@1", "9", "a b", ".".join("abcdefghi"), "a" * 41, None, 3, True, A):
            self.refused(BadName, (given,), Named, given)

    def test_signed(self):
        tree = Signed("~", A)
        self.assertEqual((tree.sign, tree.inner), ("~", A))
        for given in ("+", "*", "", "--", "mod", None, 3, True, ["-"]):
            self.refused(BadTree, (given,), Signed, given, None)
        for given in NO_TREES:
            self.refused(BadTree, (given,), Signed, "-", given)

    def test_joined(self):
        tree = Joined(A, "mod", B)
        self.assertEqual((tree.left, tree.sign, tree.right), (A, "mod", B))
        for given in NO_TREES:
            self.refused(BadTree, (given,), Joined, given, "?", None)
            self.refused(BadTree, (given,), Joined, A, "+", given)
        for given in ("~", "!", "", "=", "and", None, 3, True, ["+"], ("+",)):
            self.refused(BadTree, (given,), Joined, A, given, None)

    def test_parameters_have_their_names(self):
        tree = Joined(left=Number(number=1), sign="+", right=Signed(sign="-", inner=Named(name="a")))
        self.assertEqual(tree.text, "1 + -a")

    def test_all_are_trees(self):
        for tree in (Number(1), A, Signed("-", A), Joined(A, "+", B)):
            self.assertIsInstance(tree, Tree)

    def test_tokens(self):
        tree = tree_of("-a" + "+a" * 97)
        self.assertEqual(len(Joined(tree, "+", tree_of("--a"))), 200)
        self.refused(TooLarge, (200,), Joined, tree, "+", tree_of("---a"))
        self.assertEqual(len(Signed("-", many(99))), 200)
        self.refused(TooLarge, (200,), Signed, "-", many(100))
        self.refused(TooLarge, (200,), Joined, many(50), "+", many(50))
        self.assertEqual(len(Joined(many(50), "+", many(49))), 199)
        self.refused(TooLarge, (200,), Joined, many(50), "*", many(49))

    def test_depth(self):
        deep = tree_of("-" * 19 + "a")
        self.assertEqual(Signed("!", deep).text, "!" + "-" * 19 + "a")
        self.refused(TooLarge, (20,), Signed, "!", Signed("!", deep))
        self.refused(TooLarge, (20,), Signed, "!", Joined(deep, "+", A))
        self.assertEqual(len(Joined(A, "*", Joined(deep, "+", A))), 26)
        self.refused(TooLarge, (20,), Joined, A, "*", Joined(Signed("!", deep), "+", A))
        self.assertEqual(len(Joined(A, "+", Joined(Signed("!", deep), "*", A))), 25)

    def test_which_one_comes_first(self):
        wide = Joined(many(80), "+", tree_of("-" * 20 + "a"))
        self.assertEqual(len(wide), 181)
        self.refused(TooLarge, (20,), Signed, "-", wide)
        self.refused(TooLarge, (200,), Signed, "-", Joined(wide, "+", many(8)))

class Asking(Case):
    def test_used(self):
        self.assertEqual(tree_of("b + a * b - .c + 7 + a.b").used, ("b", "a", ".c", "a.b"))
        self.assertEqual(tree_of("7").used, ())
        self.assertEqual(tree_of("-a").used, ("a",))

    def test_in(self):
        tree = tree_of("a.b + .c")
        for name in ("a.b", ".c"):
            self.assertIs(name in tree, True)
        for name in ("a", "b", "c", "", "+", None, 3, True, ("a.b",), ["a.b"], {}, A):
            self.assertIs(name in tree, False)

    def test_walk(self):
        self.assertEqual([tree.text for tree in tree_of("-(a + 2) * b").walk()], [
            "-(a + 2) * b", "-(a + 2)", "a + 2", "a", "2", "b",
        ])
        self.assertEqual(list(A.walk()), [A])

    def test_equality(self):
        self.assertIs(tree_of("((a))+1") == tree_of("a + 0x1"), True)
        self.assertIs(tree_of("a + b + c") == tree_of("a + (b + c)"), False)
        for other in ("a", None, 3, ("a",), Number(1), B, Signed("-", A)):
            self.assertIs(A == other, False)
            self.assertIs(A != other, True)


class Replacing(Case):
    def test_all_at_once(self):
        tree = tree_of("a * b - -a")
        self.assertEqual(tree.replaced({"a": B, "b": tree_of("a + 1"), "x": A}).text, "b * (a + 1) - -b")
        self.assertEqual(tree.replaced({"a": tree_of("a + b")}).text, "(a + b) * b - -(a + b)")
        self.assertEqual(tree.text, "a * b - -a")

    def test_nothing_to_replace(self):
        for text in ("7", "a", "-a", "a + b"):
            self.assertEqual(tree_of(text).replaced({}), tree_of(text))

    def test_whole_names_alone(self):
        self.assertEqual(tree_of("a.b + .a + a").replaced({"a": Number(1)}).text, "a.b + .a + 1")

    def test_what_is_no_tree(self):
        for given in NO_TREES[:-1]:
            self.refused(BadTree, (given,), tree_of("b + a").replaced, {"x": 5, "a": given})
        self.refused(BadTree, ("2",), tree_of("b + a").replaced, {"a": "1", "b": "2"})
        self.assertEqual(A.replaced({"b": None}), A)

    def test_what_is_no_tree_goes_ahead_of_limits(self):
        self.refused(BadTree, (None,), tree_of("-a + b").replaced, {"a": many(100), "b": None})

    def test_limits(self):
        self.refused(TooLarge, (200,), tree_of("a + a").replaced, {"a": many(60)})
        self.refused(TooLarge, (20,), tree_of("-a").replaced, {"a": tree_of("-" * 20 + "b")})
        self.assertEqual(len(tree_of("a").replaced({"a": many(100)})), 199)

    def test_inner_errors_come_first(self):
        deep = tree_of("-" * 20 + "b")
        self.refused(TooLarge, (20,), tree_of("a + a + a - -d").replaced, {"a": many(30), "d": deep})
        self.refused(TooLarge, (200,), tree_of("a + a + a + a - -d").replaced, {"a": many(30), "d": deep})
        self.refused(TooLarge, (20,), tree_of("-d + (a + a)").replaced, {"a": many(60), "d": deep})

    def test_values_stay(self):
        given = {"a": tree_of("b - 9"), "b": tree_of("-1"), ".c": tree_of("70"), "d.e@1": tree_of("a * 3")}
        names = {"a": 4, "b": 2}
        values = {name: value_of(tree, names) for name, tree in given.items()}
        for tree in some_trees(300):
            try:
                changed = tree.replaced(given)
            except LimitTrouble:
                continue
            self.assertEqual(outcome(changed, names), outcome(tree, values))


class Folding(Case):
    def test_folded(self):
        for text, wanted in (
            ("x + 2 * 3 - (1 - 5)", "x + 6 - (1 - 5)"), ("2 * 3", "6"), ("1 - 5", "1 - 5"), ("-(1 + 2)", "-3"),
            ("-(1 - 5)", "4"), ("a", "a"), ("7", "7"), ("1 / 0 + 2 * 3", "1 / 0 + 6"), ("!(1 - 5)", "0"), ("~5", "~5"),
            ("~(0 - 5)", "4"), ("(1 - 5) * (0 - 1) + a", "4 + a"), ("1 << 65 - 1", str(LIMIT)), ("1 << 65", "1 << 65"),
            ("a * (2 + 3)", "a * 5"), ("2 + a + 3", "2 + a + 3"), ("2 + 3 + a", "5 + a"), ("-0", "0"),
            (f"{LIMIT} + 1", f"{LIMIT} + 1"), ("(1 - 5) - (2 + 3)", "1 - 5 - 5"), ("a || 1 || 2", "a || 1 || 2"),
            ("--a", "--a"), ("-(2 * 3) + (1 / 0)", "-6 + 1 / 0"),
        ):
            self.assertEqual(tree_of(text).folded().text, wanted)

    def test_values_stay_and_tokens_do_not_rise(self):
        for tree in some_trees(400):
            folded = tree.folded()
            self.assertLessEqual(len(folded), len(tree))
            for names in ({"a": 1, "b": 0, ".c": -3, "d.e@1": 64}, {"a": 0, "b": 2, ".c": LIMIT, "d.e@1": -1}):
                self.assertEqual(outcome(folded, names), outcome(tree, names))
            for part in folded.walk():
                if not part.used and not isinstance(part, Number):
                    self.assertFalse(has_value_from_0_on(part))


def has_value_from_0_on(tree):
    """Whether a tree without names has a value that is not negative."""
    try:
        return plain_of(tree) >= 0
    except (ValueTrouble, LimitTrouble):
        return False
