"""Uses, rings and resolved equations: [33] to [35]."""

import itertools
import random

from helpers import LIMIT, Case
from macroasm.errors import BadShift, BadTree, Cycle, DividedByZero, NoName, NotPlain, TooLarge
from macroasm.expressions import tree_of, value_of
from macroasm.linear import Linear
from macroasm.names import Names


def made(equations, labels=("f", "g")):
    """Names with labels and the equations of pairs (name, text)."""
    names = Names()
    for label in labels:
        names.add_label(label)
    for name, text in equations:
        names.add_equation(name, tree_of(text))
    return names


def brute_ring(uses):
    """The least ring of all, by looking at each row of different names."""
    found = [()]
    for many in range(1, len(uses) + 1):
        for row in itertools.permutations(sorted(uses), many):
            if row[0] == min(row) and all(row[(at + 1) % many] in uses[row[at]] for at in range(many)):
                found.append(row)
    return min(found[1:], default=())


class Uses(Case):
    def test_uses(self):
        names = made([("e", "g + f * 0 - g + d"), ("d", "1")])
        self.assertEqual(names.uses_of("e"), ("d", "f", "g"))
        self.assertEqual(names.uses_of("d"), ())

    def test_names_that_cancel_out(self):
        self.assertEqual(made([("e", "f - f")]).uses_of("e"), ("f",))
        self.assertEqual(made([("e", "e - e")]).uses_of("e"), ("e",))

    def test_by_the_place_of_the_equation(self):
        names = Names()
        names.open_scope("s")
        names.add_label("last")
        names.add_equation("e", tree_of("x + .y + t.z"))
        names.close_scope()
        names.add_label("x")
        self.refused(NoName, (".y",), names.uses_of, "s.e")
        names.add_import("s.last.y")
        names.add_import("t.z")
        self.assertEqual(names.uses_of("s.e"), ("s.last.y", "t.z", "x"))
        names.open_scope("s")
        names.add_label("x")
        self.assertEqual(names.uses_of("s.e"), ("s.last.y", "s.x", "t.z"))

    def test_different_names_for_one(self):
        names = Names()
        names.open_scope("s")
        names.add_label("f")
        names.add_equation("e", tree_of("f + s.f"))
        self.assertEqual(names.uses_of("s.e"), ("s.f",))

    def test_no_equation(self):
        names = made([("e", "q")])
        names.add_import("i")
        for wrong in ("f", "i", "q", "", None, 5, (), [], {}, True):
            self.refused(NoName, (wrong,), names.uses_of, wrong)
        self.refused(NoName, ("q",), names.uses_of, "e")
        self.refused(NoName, ("z",), made([("e", "f + z + a")]).uses_of, "e")


class Rings(Case):
    def test_none(self):
        self.assertEqual(Names().least_ring(), ())
        self.assertEqual(made([("a", "b + c"), ("b", "c + f"), ("c", "1")]).least_ring(), ())

    def test_one(self):
        self.assertEqual(made([("a", "0 * a")]).least_ring(), ("a",))
        self.assertEqual(made([("c", "a"), ("b", "c"), ("a", "b"), ("d", "a")]).least_ring(), ("a", "b", "c"))

    def test_several(self):
        self.assertEqual(made([("b", "c"), ("c", "b"), ("a", "b"), ("d", "d")]).least_ring(), ("b", "c"))
        self.assertEqual(made([("a", "c + b"), ("b", "c"), ("c", "a")]).least_ring(), ("a", "b", "c"))
        self.assertEqual(made([("a", "c + b"), ("b", "a + c"), ("c", "a")]).least_ring(), ("a", "b"))
        self.assertEqual(made([("a", "a + b"), ("b", "a")]).least_ring(), ("a",))
        self.assertEqual(made([("a", "b + d"), ("b", "c"), ("c", "b"), ("d", "a")]).least_ring(), ("a", "d"))
        self.assertEqual(made([("a", "B + b"), ("B", "a"), ("b", "a")]).least_ring(), ("B", "a"))

    def test_all_graphs(self):
        chance = random.Random(5)
        for _ in range(300):
            names = [f"e{number}" for number in range(chance.randint(1, 5))]
            uses = {name: [other for other in names if chance.random() < 0.35] for name in names}
            equations = [(name, " + ".join(["1", *uses[name]])) for name in chance.sample(names, len(names))]
            self.assertEqual(made(equations).least_ring(), brute_ring(uses))

    def test_names_that_stand_for_nothing(self):
        names = made([("b", "b"), ("z", "f + y + x"), ("a", "w")])
        self.refused(NoName, ("y",), names.least_ring)
        self.refused(NoName, ("y",), names.resolved)
        names.add_label("y")
        names.add_label("x")
        self.refused(NoName, ("w",), names.least_ring)
        names.add_label("w")
        self.assertEqual(names.least_ring(), ("b",))

    def test_a_long_ring(self):
        last = 299
        equations = [(f"e{number:03}", f"e{(number + 1) % 300:03}") for number in range(last + 1)]
        self.assertEqual(made(equations).least_ring(), tuple(name for name, _ in equations))


class Resolving(Case):
    def test_forms(self):
        names = made([("e", "2 * d - f"), ("d", "f + g - c"), ("c", "7"), ("p", "(f - f) / 2 + 0 * g")])
        names.add_import("i.j")
        names.add_equation("k", tree_of("i.j + e"))
        found = names.resolved()
        f, g = Linear.single("f"), Linear.single("g")
        for path, form in (
            ("f", f), ("g", g), ("i.j", Linear.single("i.j")), ("c", Linear(7)), ("d", f + g - 7), ("e", f + 2 * g - 14),
            ("p", Linear(0)), ("k", Linear(-14, ("f", 1), ("g", 2), ("i.j", 1))),
        ):
            self.assertEqual(found[path], form)
            self.assertTrue(path in found)
        self.assertEqual(len(found), 8)

    def test_the_order_of_adding(self):
        equations = [("a", "b + 2 * c"), ("b", "c - f"), ("c", "g * d"), ("d", "3")]
        for row in itertools.permutations(equations):
            found = made(row).resolved()
            self.assertEqual(found["a"], Linear(0, ("f", -1), ("g", 9)))

    def test_other_names(self):
        found = made([("e", "1")]).resolved()
        for wrong in ("q", "", None, 5, (), [], {}, True, ".f"):
            self.refused(NoName, (wrong,), found.__getitem__, wrong)
            self.assertFalse(wrong in found)
        with self.assertRaises(TypeError):
            list(found)
        self.assertEqual(len(Names().resolved()), 0)

    def test_cycle(self):
        names = made([("b", "c / 0"), ("c", "b"), ("a", "1 / 0")])
        self.refused(Cycle, (("b", "c"),), names.resolved)
        self.refused(Cycle, (("e",),), made([("e", "0 * e")]).resolved)

    def test_refused_trees(self):
        self.refused(DividedByZero, (), made([("e", "1 / 0")]).resolved)
        self.refused(NotPlain, ("f",), made([("a", "b * b"), ("b", "g + f"), ("c", "1 / 0")]).resolved)
        self.refused(BadShift, (65,), made([("a", "b"), ("b", "1 << 65"), ("c", "1 / 0"), ("aa", "c + b")]).resolved)
        self.refused(DividedByZero, (), made([("b", "1 << 65"), ("a", "1 / (f - f)")]).resolved)
        self.refused(TooLarge, (LIMIT,), made([("b", f"{LIMIT} + 1"), ("c", "f / f")]).resolved)
        self.refused(NotPlain, ("g",), made([("z", "g == 1"), ("a", "z + y"), ("y", "1")]).resolved)

    def test_what_uses_a_refused_one_does_not_count(self):
        names = made([("a", "b / 0"), ("b", "1 << 65"), ("c", "1 / 0")])
        self.refused(BadShift, (65,), names.resolved)

    def test_too_many_unknowns(self):
        labels = [f"u{number}" for number in range(17)]
        self.refused(TooLarge, (16,), made([("e", "+".join(labels))], labels).resolved)
        found = made([("e", "+".join(labels[:16]))], labels).resolved()
        self.assertEqual(len(found["e"]), 16)

    def test_what_is_added_afterwards(self):
        names = made([("e", "f")])
        found = names.resolved()
        names.add_label("later")
        names.open_scope("s")
        self.assertFalse("later" in found)
        self.assertEqual((len(found), len(names.resolved())), (3, 4))
        self.refused(NoName, ("later",), found.form_at, tree_of("later"), ("", None))

    def test_form_at(self):
        names = made([("e", "2 * f")])
        names.add_label(".x")
        names.open_scope("s")
        names.add_label("f")
        found = names.resolved()
        self.assertEqual(found.form_at(tree_of("e + f + .x"), ("", "g")), Linear(0, ("f", 3), ("g.x", 1)))
        self.assertEqual(found.form_at(tree_of("e + f"), ("s", None)), Linear(0, ("f", 2), ("s.f", 1)))
        self.refused(NoName, ("q",), found.form_at, tree_of("1 / 0 + f + q + r"), ("", None))
        self.refused(NoName, (".x",), found.form_at, tree_of(".x"), ("", None))
        self.refused(NotPlain, ("f",), found.form_at, tree_of("e * f"), ("", None))
        self.refused(DividedByZero, (), found.form_at, tree_of("1 / 0 + e * f"), ("", None))
        for wrong in (None, "f", 5, (), found):
            self.refused(BadTree, (wrong,), found.form_at, wrong, ("", None))

    def test_values(self):
        equations = [("a", "3 * b - f"), ("b", "g - -c + (f + 1) * 2"), ("c", "-(4 - g)")]
        values = {"f": 12, "g": -7}
        worked = dict(values)
        for name, text in (equations[2], equations[1], equations[0]):
            worked[name] = value_of(tree_of(text), worked)
        found = made(equations).resolved()
        for name in worked:
            self.assertEqual(found[name](values), worked[name])

    def test_all_300(self):
        equations = [(f"e{number}", f"e{number + 1} + 1") for number in range(299)] + [("e299", "f")]
        self.assertEqual(made(equations).resolved()["e0"], Linear(299, ("f", 1)))
