"""Values of expressions: [13]."""

from helpers import LIMIT, Case
from macroasm.errors import BadNumber, BadShift, BadTree, DividedByZero, NoName, NotPlain, TooLarge
from macroasm.expressions import PlainWays, Ways, plain_of, steps_of, tree_of, value_of
from macroasm.trees import Joined, Named, Number, Signed

NO_TREES = (None, 3, True, "a", ("a",), ["a"], {})
NAMES = {"a": 7, "b": -7, "z": 0, "m": LIMIT, "n": -LIMIT, "s": 64, "t": 65}


def value(text):
    """The value of an expression, by NAMES."""
    return value_of(tree_of(text), NAMES)


class Operators(Case):
    def has(self, pairs):
        """Each text has its value."""
        for text, wanted in pairs:
            self.assertEqual(value(text), wanted, text)
            self.assertIs(type(value(text)), int)

    def is_too_large(self, *texts):
        """No text has a value that is let in."""
        for text in texts:
            self.refused(TooLarge, (LIMIT,), value, text)

    def test_truth(self):
        self.has((
            ("a || z", 1), ("z || b", 1), ("z || z", 0), ("a || b", 1), ("a && b", 1), ("a && z", 0), ("z && b", 0),
            ("z && z", 0), ("!a", 0), ("!z", 1), ("!b", 0), ("!!a", 1),
        ))

    def test_comparisons(self):
        self.has((
            ("a == 7", 1), ("a == b", 0), ("a != 7", 0), ("a != b", 1), ("b < a", 1), ("a < 7", 0), ("a <= 7", 1),
            ("a <= b", 0), ("a > b", 1), ("a > 7", 0), ("a >= 7", 1), ("b >= a", 0), ("m > n", 1), ("n == -m", 1),
        ))

    def test_binary_digits(self):
        self.has((
            ("12 & 10", 8), ("12 | 3", 15), ("12 ^ 10", 6), ("b & 15", 9), ("b | 2", -5), ("b ^ 1", -8), ("~a", -8),
            ("~b", 6), ("~z", -1), ("n & m", LIMIT), ("n | m", -LIMIT), ("m - 1 | 1", LIMIT - 1), ("~(m - 1)", -LIMIT),
        ))
        self.is_too_large("m | 1", "m ^ 1", "n ^ m", "~m", "n & -2 - (m - 1)")

    def test_sums_and_products(self):
        self.has((
            ("a + b", 0), ("a - b", 14), ("a * b", -49), ("-m", -LIMIT), ("-n", LIMIT), ("m - 1 + 1", LIMIT),
            ("n + 1 - 1", -LIMIT), ("m * -1", -LIMIT), ("m / 2 * 2", LIMIT),
        ))
        self.is_too_large("m + 1", "n - 1", "1 - n", "m * 2", "m * m", "n * n", "m + m")

    def test_division(self):
        self.has((
            ("7 / 2", 3), ("-7 / 2", -4), ("7 / -2", -4), ("-7 / -2", 3), ("z / a", 0), ("n / -1", LIMIT),
            ("7 mod 2", 1), ("-7 mod 2", 1), ("7 mod -2", -1), ("-7 mod -2", -1), ("6 mod 3", 0), ("-6 mod -3", 0),
            ("m mod 10", LIMIT - LIMIT // 10 * 10), ("m / m", 1),
        ))
        for text in ("a / 0", "a mod 0", "0 / 0", "a / (1 - 1)"):
            self.refused(DividedByZero, (), value, text)

    def test_shifts(self):
        self.has((
            ("a << 0", 7), ("a << 1", 14), ("b << 2", -28), ("1 << 64", LIMIT), ("-1 << 64", -LIMIT), ("z << 64", 0),
            ("a >> 0", 7), ("a >> 1", 3), ("b >> 1", -4), ("m >> 64", 1), ("n >> s", -1), ("a >> 64", 0),
            ("b >> 64", -1),
        ))
        self.is_too_large("2 << 64", "m << 1", "a << s")
        for sign in ("<<", ">>"):
            self.refused(BadShift, (65,), value, f"a {sign} t")
            self.refused(BadShift, (-1,), value, f"a {sign} -1")
            self.refused(BadShift, (LIMIT,), value, f"z {sign} m")
            self.refused(BadShift, (65,), value, f"m {sign} t")

    def test_both_sides_are_always_worked_out(self):
        for text in ("1 || 1 / 0", "0 && 1 / 0", "0 * (1 / 0)", "1 / 0 || 1"):
            self.refused(DividedByZero, (), value, text)
        self.refused(NoName, ("x",), value, "1 || x")

    def test_left_first_then_right_then_the_operator(self):
        self.refused(NoName, ("x",), value, "x + y")
        self.refused(DividedByZero, (), value, "1 / 0 + x")
        self.refused(NoName, ("x",), value, "x / 0")
        self.refused(TooLarge, (LIMIT,), value, "(m + 1) / (x + 1)")
        self.refused(BadShift, (65,), value, "(1 << 65) * (1 / 0)")
        self.refused(DividedByZero, (), value, "-(1 / 0) << 65")

    def test_integers_inside_are_bounded_too(self):
        self.is_too_large("m + 1 - 1", "-m - 1 + 1", "(m * 2) / 2", "z * (m + 1)")


class Names(Case):
    def test_names_of_each_kind(self):
        tree = tree_of("a.b@1 * 10 + .x + a")
        self.assertEqual(value_of(tree, {"a.b@1": 4, ".x": 2, "a": -LIMIT, "other": None}), 42 - LIMIT)

    def test_missing_names(self):
        self.refused(NoName, ("a.b",), value_of, tree_of("1 + a.b"), {"a": 1, "b": 2})

    def test_what_is_no_value(self):
        for given in (None, True, False, "1", (1,), [1], LIMIT + 1, -LIMIT - 1):
            self.refused(BadNumber, (given,), value_of, tree_of("a"), {"a": given})

    def test_only_names_that_are_worked_out_are_looked_at(self):
        self.assertEqual(value_of(tree_of("1"), {"a": None}), 1)
        self.refused(DividedByZero, (), value_of, tree_of("1 / 0 + a"), {"a": None})
        self.refused(BadNumber, (None,), value_of, tree_of("a + x"), {"a": None})

    def test_no_trees(self):
        for given in NO_TREES:
            self.refused(BadTree, (given,), value_of, given, {})
            self.refused(BadTree, (given,), plain_of, given)
            self.refused(BadTree, (given,), list, steps_of(given, {}))


class Plain(Case):
    def test_without_names(self):
        self.assertEqual(plain_of(tree_of("2 * 3 - 10")), -4)
        self.refused(DividedByZero, (), plain_of, tree_of("1 / 0"))

    def test_names_go_ahead_of_all(self):
        self.refused(NotPlain, ("b",), plain_of, tree_of("1 / 0 + b * a"))
        self.refused(NotPlain, (".x",), plain_of, tree_of("0 * .x"))


class Steps(Case):
    def test_in_their_order(self):
        self.assertEqual(list(steps_of(tree_of("-(a + 2) * b mod 3"), {"a": 1, "b": 5})), [
            ("a", 1), ("2", 2), ("a + 2", 3), ("-(a + 2)", -3), ("b", 5), ("-(a + 2) * b", -15), ("3", 3),
            ("-(a + 2) * b mod 3", 0),
        ])
        self.assertEqual(list(steps_of(tree_of("7"), {})), [("7", 7)])

    def test_the_error_comes_at_its_place(self):
        steps = steps_of(tree_of("a + 1 / 0 - x"), {"a": 1})
        self.assertEqual([next(steps) for _ in range(3)], [("a", 1), ("1", 1), ("0", 0)])
        self.refused(DividedByZero, (), next, steps)
        steps = steps_of(tree_of("1 + x"), {})
        self.assertEqual(next(steps), ("1", 1))
        self.refused(NoName, ("x",), next, steps)

    def test_the_error_of_a_value(self):
        steps = steps_of(tree_of("1 + x"), {"x": True})
        next(steps)
        self.refused(BadNumber, (True,), next, steps)


class Writing(Ways):
    """Ways that write what they are asked."""

    def __init__(self):
        self.order = []

    def of_number(self, number):
        self.order.append(number)
        return f"n{number}"

    def of_name(self, path):
        self.order.append(path)
        return f"p{path}"

    def of_sign(self, sign, one):
        self.order.append(sign)
        return f"[{sign}{one}]"

    def of_operator(self, one, sign, other):
        self.order.append(sign)
        return f"[{one}{sign}{other}]"


class OtherWays(Case):
    def test_a_tree_is_worked_out_by_ways(self):
        ways = Writing()
        self.assertEqual(tree_of("-(a + 2) mod .b").by(ways), "[[-[pa+n2]]modp.b]")
        self.assertEqual(ways.order, ["a", 2, "+", "-", ".b", "mod"])

    def test_each_kind_of_tree(self):
        self.assertEqual(Number(3).by(Writing()), "n3")
        self.assertEqual(Named("a").by(Writing()), "pa")
        self.assertEqual(Signed("!", Number(1)).by(Writing()), "[!n1]")
        self.assertEqual(Joined(Number(1), "||", Number(2)).by(Writing()), "[n1||n2]")

    def test_plain_ways(self):
        ways = PlainWays({"a": 5, "b": None})
        self.assertIsInstance(ways, Ways)
        self.assertEqual(ways.of_number(3), 3)
        self.assertEqual(ways.of_name("a"), 5)
        self.assertEqual(ways.of_sign("~", 3), -4)
        self.assertEqual(ways.of_operator(7, "mod", -2), -1)
        self.assertEqual(tree_of("a * a").by(ways), 25)
        self.refused(NoName, ("c",), ways.of_name, "c")
        self.refused(BadNumber, (None,), ways.of_name, "b")
        self.refused(TooLarge, (LIMIT,), ways.of_sign, "~", LIMIT)
        self.refused(DividedByZero, (), ways.of_operator, 1, "/", 0)

    def test_plain_ways_do_not_keep_the_dict(self):
        names = {"a": 5}
        ways = PlainWays(names)
        names["a"] = 6
        self.assertEqual(ways.of_name("a"), 5)
