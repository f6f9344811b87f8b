"""Linear forms: [28], [29], without trees."""

from helpers import LIMIT, Case
from macroasm.errors import BadName, BadNumber, BadObject, NoName, NotPlain, TooLarge
from macroasm.linear import Linear

A = Linear.single("a")
B = Linear.single("b")
MANY = tuple([(f"u{number:02}", number) for number in range(1, 18)])


def parts(form):
    """The constant and the pairs of a form."""
    return form.constant, form.pairs


class Making(Case):
    def test_parts(self):
        form = Linear(5, ("b", 2), ("a", -1))
        self.assertEqual(parts(form), (5, (("a", -1), ("b", 2))))
        self.assertEqual(form.unknowns, ("a", "b"))
        self.assertEqual((form.is_plain, len(form)), (False, 2))
        self.assertEqual(parts(Linear()), (0, ()))
        self.assertEqual((Linear().is_plain, len(Linear()), Linear(3).unknowns), (True, 0, ()))

    def test_equal_unknowns_are_added(self):
        self.assertEqual(parts(Linear(0, ("a", 1), ("b", 1), ("a", 2))), (0, (("a", 3), ("b", 1))))
        self.assertEqual(parts(Linear(1, ("a", 1), ("b", 0), ("a", -1))), (1, ()))
        self.assertTrue(Linear(1, ("a", 1), ("a", -1)).is_plain)

    def test_order_is_that_of_strings(self):
        form = Linear(0, ("b", 1), ("_", 1), ("B", 1), ("1!x", 1), (".x", 1), ("a.b", 1), ("a@1", 1), ("a", 1))
        self.assertEqual(form.unknowns, (".x", "1!x", "B", "_", "a", "a.b", "a@1", "b"))

    def test_other_ways(self):
        self.assertEqual(Linear.of(5, (("b", 2), ("a", 1))), Linear(5, ("a", 1), ("b", 2)))
        self.assertEqual(Linear.of(5, ()), Linear(5))
        self.assertEqual(parts(Linear.single("1!a.b@3")), (0, (("1!a.b@3", 1),)))

    def test_unknowns(self):
        for unknown in ("a", "Z", "9", "_", ".", "@", "!", "a" * 500, "1!a.b@2", "..", "mod"):
            self.assertEqual(Linear.single(unknown).unknowns, (unknown,))
            self.assertEqual(Linear(0, (unknown, 1)).unknowns, (unknown,))
        for wrong in ("", "a" * 501, "a b", "a-b", "a\n", "$", "a:", "\u00e9", "a\u0661", None, 5, True, ("a",), ["a"], {}):
            self.refused(BadName, (wrong,), Linear.single, wrong)
            self.refused(BadObject, ((wrong, 1),), Linear, 0, (wrong, 1))

    def test_what_is_no_integer_or_pair(self):
        for wrong in (True, False, None, "1", (), [1]):
            self.refused(BadNumber, (wrong,), Linear, wrong, 5)
            self.refused(BadNumber, (wrong,), Linear.of, wrong, 5)
            self.refused(BadObject, (("a", wrong),), Linear, 0, ("b", 1), ("a", wrong), 7)
        for wrong in (5, "ab", None, (), ("a",), ("a", 1, 1), ["a", 1], Linear(1), True):
            self.refused(BadObject, (wrong,), Linear, LIMIT + 1, ("b", 1), wrong, 7)
            self.refused(BadObject, (wrong,), Linear.of, 0, (wrong, 7))
        for wrong in ([], None, 5, "", [("a", 1)], {}, Linear(0)):
            self.refused(BadObject, (wrong,), Linear.of, LIMIT + 1, wrong)

    def test_sixteen_unknowns(self):
        self.assertEqual(Linear(0, *MANY[:16]).pairs, MANY[:16])
        self.refused(TooLarge, (16,), Linear, 0, *MANY)
        self.refused(TooLarge, (16,), Linear.of, 0, MANY)
        self.assertEqual(len(Linear(0, *MANY, ("u03", -3))), 16)

    def test_only_sums_have_bounds(self):
        for number in (LIMIT, -LIMIT):
            self.assertEqual(parts(Linear(number, ("a", number))), (number, (("a", number),)))
            self.refused(TooLarge, (LIMIT,), Linear, number * 2)
            self.refused(TooLarge, (LIMIT,), Linear, 0, ("a", number), ("b", 1), ("a", number))
            self.assertEqual(parts(Linear(0, ("a", number * 5), ("a", -number * 4))), (0, (("a", number),)))
        self.refused(TooLarge, (LIMIT,), Linear, LIMIT + 1)
        self.refused(TooLarge, (LIMIT,), Linear, -LIMIT - 1)
        self.refused(TooLarge, (LIMIT,), Linear, 0, ("a", -LIMIT - 1))
        self.refused(TooLarge, (LIMIT,), Linear, LIMIT + 1, *MANY)
        self.refused(TooLarge, (LIMIT,), Linear, 0, *MANY[:16], ("z", LIMIT + 1))


class Asking(Case):
    def test_unknowns_in_a_form(self):
        form = Linear(5, ("a", -2), ("b", 1))
        self.assertEqual((form["a"], form["b"], form["c"]), (-2, 1, 0))
        self.assertTrue("a" in form and "b" in form and "c" not in form)
        for other in (None, 5, (), ("a", -2), [], {}, form, True, ""):
            self.assertEqual(form[other], 0)
            self.assertFalse(other in form)

    def test_no_iterating(self):
        with self.assertRaises(TypeError):
            list(A)

    def test_equal(self):
        self.assertEqual(Linear(1, ("a", 1), ("b", 2)), Linear(1, ("b", 2), ("a", 1)))
        for other in (Linear(2, ("a", 1)), Linear(1, ("a", 2)), Linear(1, ("b", 1)), Linear(1), 1, None, (1, ("a", 1))):
            self.assertNotEqual(Linear(1, ("a", 1)), other)
        self.assertNotEqual(Linear(1), 1)

    def test_value(self):
        form = Linear(5, ("a", -2), ("b", 3))
        self.assertEqual(form({"a": 1, "b": 10, "c": 7}), 33)
        self.assertEqual(Linear(7)({}), 7)
        self.refused(NoName, ("a",), form, {"c": 1})
        self.refused(NoName, ("b",), form, {"a": LIMIT * 5})

    def test_bound_of_the_value(self):
        form = Linear(0, ("a", LIMIT), ("b", -LIMIT))
        self.assertEqual(form({"a": LIMIT * 9, "b": LIMIT * 9 - 1}), LIMIT)
        self.refused(TooLarge, (LIMIT,), form, {"a": 2, "b": 0})
        self.refused(TooLarge, (LIMIT,), form, {"a": 0, "b": 2})
        self.refused(TooLarge, (LIMIT,), A, {"a": LIMIT + 1})
        self.assertEqual(A({"a": -LIMIT}), -LIMIT)


class Filling(Case):
    def test_filled(self):
        form = Linear(5, ("a", -2), ("b", 3))
        forms = {"a": Linear(1, ("b", 2)), "c": Linear(9)}
        self.assertEqual(form.filled(forms), Linear(3, ("b", -1)))
        self.assertEqual(forms, {"a": Linear(1, ("b", 2)), "c": Linear(9)})
        self.assertEqual(form.filled({}), form)
        self.assertEqual(form.filled({"a": Linear(2), "b": Linear(1)}), Linear(4))
        self.assertEqual(parts(form), (5, (("a", -2), ("b", 3))))

    def test_all_at_once(self):
        self.assertEqual((A + 2 * B).filled({"a": B, "b": A}), B + 2 * A)
        self.assertEqual(A.filled({"a": A + A}), 2 * A)

    def test_bounds_of_the_result(self):
        form = Linear(0, ("a", LIMIT), ("b", -LIMIT))
        self.assertEqual(form.filled({"a": Linear(LIMIT, ("c", 7)), "b": Linear(LIMIT, ("c", 7))}), Linear(0))
        self.refused(TooLarge, (LIMIT,), form.filled, {"a": Linear(2)})
        self.refused(TooLarge, (LIMIT,), form.filled, {"a": 2 * A})
        wide = Linear(0, *MANY[1:])
        self.refused(TooLarge, (16,), (A + B).filled, {"a": wide, "b": Linear(0, MANY[0])})
        self.refused(TooLarge, (LIMIT,), (2 * A + B).filled, {"a": wide + LIMIT, "b": Linear(0, MANY[0])})
        self.assertEqual((A - B).filled({"a": wide, "b": wide + 1}), Linear(-1))


class Signs(Case):
    def test_sums(self):
        self.assertEqual(parts(Linear(1, ("a", 2)) + Linear(4, ("a", 1), ("b", 1))), (5, (("a", 3), ("b", 1))))
        self.assertEqual(parts(Linear(1, ("a", 2)) - Linear(4, ("a", 1), ("b", 1))), (-3, (("a", 1), ("b", -1))))
        self.assertEqual(parts(-Linear(1, ("a", 2))), (-1, (("a", -2),)))
        self.assertTrue((A - A).is_plain)

    def test_integers_on_one_side(self):
        self.assertEqual(parts(A + 5), (5, (("a", 1),)))
        self.assertEqual(parts(5 + A), (5, (("a", 1),)))
        self.assertEqual(parts(A - 5), (-5, (("a", 1),)))
        self.assertEqual(parts(5 - A), (5, (("a", -1),)))
        self.assertEqual(parts((A + 2) * 5), (10, (("a", 5),)))
        self.assertEqual(parts(5 * (A + 2)), (10, (("a", 5),)))
        self.assertEqual(parts(A * 0), (0, ()))

    def test_products(self):
        self.assertEqual(Linear(3) * (A + 1), Linear(3, ("a", 3)))
        self.assertEqual((A + 1) * Linear(-3), Linear(-3, ("a", -3)))
        self.assertEqual(Linear(3) * Linear(4), Linear(12))
        self.assertEqual((A - A) * B, Linear(0))
        self.refused(NotPlain, ("b",), lambda: (B + Linear.single("c")) * A)
        self.refused(NotPlain, ("a",), lambda: (B + A) * B)
        self.refused(NotPlain, ("a",), lambda: A * A)

    def test_bounds(self):
        self.assertEqual((A + LIMIT).constant, LIMIT)
        for call in (
            lambda: Linear(LIMIT) + 1, lambda: 1 + Linear(LIMIT), lambda: Linear(-LIMIT) - 1, lambda: -1 - Linear(LIMIT),
            lambda: Linear(LIMIT) + Linear(1), lambda: (LIMIT * A) + A, lambda: LIMIT * A * 2, lambda: 2 * (A + LIMIT),
            lambda: (-LIMIT * A) - A, lambda: Linear(LIMIT) * Linear(LIMIT),
        ):
            self.refused(TooLarge, (LIMIT,), call)
        self.assertEqual(LIMIT * A - A, (LIMIT - 1) * A)
        one, other = Linear(0, *MANY[:9]), Linear(0, *MANY[9:])
        self.refused(TooLarge, (16,), lambda: one + other)
        self.refused(TooLarge, (16,), lambda: one - other)
        self.refused(TooLarge, (LIMIT,), lambda: (one + LIMIT) + (other + 1))
        self.assertEqual(len(one + one), 9)

    def test_nothing_changes(self):
        one, other = Linear(1, ("a", 2)), Linear(3, ("b", 4))
        for made in (one + other, one - other, one * 2, -one, 1 - one):
            self.assertNotEqual(made, one)
        self.assertEqual((parts(one), parts(other)), ((1, (("a", 2),)), (3, (("b", 4),))))

    def test_other_sides(self):
        for other in ("a", None, True, (), []):
            for call in (lambda: A + other, lambda: other - A, lambda: A * other, lambda: other + A, lambda: A - other):
                with self.assertRaises(TypeError):
                    call()
