"""Scopes, labels and what is added to them: [30], [31]."""

from helpers import Case
from macroasm.errors import BadName, BadTree, NoName, NothingLeft, Taken, TooLarge
from macroasm.expressions import tree_of
from macroasm.lines import RESERVED
from macroasm.names import Names

ONE = tree_of("1")
NO_NAMES = ("", "9", "a b", "a" * 41, "a@", "a@0", "a@01", "a@1234567890", "@a", "a:", None, 5, True, (), ["a"], {})


def state(names):
    """All that Names tells of itself."""
    return names.place, names.least_ring(), len(names.resolved())


class Scopes(Case):
    def test_places(self):
        names = Names()
        self.assertEqual(names.place, ("", None))
        self.assertIsNone(names.open_scope("a"))
        self.assertEqual(names.place, ("a", None))
        names.open_scope("b@3")
        self.assertEqual(names.place, ("a.b@3", None))
        self.assertIsNone(names.close_scope())
        self.assertEqual(names.place, ("a", None))
        names.close_scope()
        self.assertEqual(names.place, ("", None))

    def test_nothing_left(self):
        names = Names()
        self.refused(NothingLeft, (), names.close_scope)
        names.open_scope("a")
        names.close_scope()
        self.refused(NothingLeft, (), names.close_scope)

    def test_eight(self):
        names = Names()
        for number in range(8):
            names.open_scope(f"s{number}")
        self.refused(TooLarge, (8,), names.open_scope, "t")
        self.refused(BadName, ("byte",), names.open_scope, "byte")
        self.assertEqual(names.place, ("s0.s1.s2.s3.s4.s5.s6.s7", None))
        self.assertEqual(names.add_label("x"), "s0.s1.s2.s3.s4.s5.s6.s7.x")
        self.assertEqual(names.add_label(".y"), "s0.s1.s2.s3.s4.s5.s6.s7.x.y")
        names.close_scope()
        names.open_scope("t")
        self.refused(TooLarge, (8,), names.open_scope, "u")

    def test_longest_names(self):
        names = Names()
        for number in range(8):
            names.open_scope("s" * 40 + f"@12345678{number}")
        names.add_label("x" * 40)
        full = names.add_label("." + "y" * 40)
        self.assertEqual(len(full), 8 * 51 + 81)
        self.assertEqual(names.resolved()[full].unknowns, (full,))

    def test_names_of_scopes(self):
        names = Names()
        for wrong in (*NO_NAMES, ".a", "a.b", *RESERVED):
            self.refused(BadName, (wrong,), names.open_scope, wrong)
        self.assertEqual(names.place, ("", None))
        for name in ("a", "a", "a@1", "byte@3", "Byte"):
            names.open_scope(name)

    def test_a_scope_may_have_the_path_of_a_name(self):
        names = Names()
        names.add_label("a")
        names.open_scope("a")
        self.assertEqual(names.add_label("x"), "a.x")
        names.close_scope()
        names.open_scope("b")
        names.close_scope()
        self.assertEqual(names.add_equation("b", ONE), "b")
        names.open_scope("b")
        self.assertEqual(names.place, ("b", None))


class Adding(Case):
    def test_full_names(self):
        names = Names()
        self.assertEqual(names.add_label("a"), "a")
        self.assertEqual(names.add_equation("e", ONE), "e")
        self.assertEqual(names.add_import("x.y.z"), "x.y.z")
        names.open_scope("s")
        self.assertEqual(names.add_label("a"), "s.a")
        self.assertEqual(names.add_equation("e", ONE), "s.e")
        self.assertEqual(names.add_import("q"), "q")
        names.open_scope("t@5")
        self.assertEqual(names.add_label("a@7"), "s.t@5.a@7")
        self.assertEqual(names.add_equation("e@7", ONE), "s.t@5.e@7")
        self.assertEqual(names.add_import("a.b@2"), "a.b@2")

    def test_local_labels(self):
        names = Names()
        names.add_label("f")
        self.assertEqual((names.add_label(".x"), names.add_label(".y")), ("f.x", "f.y"))
        self.assertEqual(names.place, ("", "f"))
        names.add_label("g")
        self.assertEqual(names.add_label(".x"), "g.x")
        names.open_scope("s")
        self.refused(NoName, (".x",), names.add_label, ".x")
        names.add_label("f")
        self.assertEqual(names.add_label(".x"), "s.f.x")

    def test_last_labels(self):
        names = Names()
        names.add_label("f")
        names.add_label("m@1")
        names.add_label(".x")
        names.add_equation("e", ONE)
        names.add_import("i")
        self.assertEqual(names.place, ("", "f"))
        names.open_scope("s")
        self.assertEqual(names.place, ("s", None))
        names.add_label("g")
        self.assertEqual(names.place, ("s", "s.g"))
        names.close_scope()
        self.assertEqual(names.place, ("", "f"))
        names.open_scope("s")
        self.assertEqual(names.place, ("s", None))
        self.refused(NoName, (".z",), names.add_label, ".z")

    def test_last_labels_in_made_scopes(self):
        names = Names()
        names.open_scope("s@1")
        names.add_label("g@2")
        self.assertEqual(names.place, ("s@1", None))
        names.add_label("g")
        self.assertEqual((names.add_label(".x"), names.place), ("s@1.g.x", ("s@1", "s@1.g")))

    def test_local_names_and_scopes_meet(self):
        names = Names()
        names.add_label("s")
        names.add_label(".x")
        names.open_scope("s")
        self.refused(Taken, ("s.x",), names.add_label, "x")
        names.add_label("y")
        names.close_scope()
        self.refused(Taken, ("s.y",), names.add_label, ".y")

    def test_taken(self):
        names = Names()
        names.add_label("a")
        names.add_equation("e", ONE)
        names.add_import("i")
        names.add_import("s.x")
        for name in ("a", "e", "i"):
            self.refused(Taken, (name,), names.add_label, name)
            self.refused(Taken, (name,), names.add_equation, name, ONE)
            self.refused(Taken, (name,), names.add_import, name)
        names.open_scope("s")
        self.refused(Taken, ("s.x",), names.add_label, "x")
        self.refused(Taken, ("s.x",), names.add_equation, "x", ONE)
        self.refused(Taken, ("a",), names.add_import, "a")
        self.assertEqual(names.add_label("a"), "s.a")
        self.assertEqual(names.place, ("s", "s.a"))
        self.refused(Taken, ("s.a",), names.add_label, "a")

    def test_bad_names(self):
        names = Names()
        names.add_label("f")
        for wrong in (*NO_NAMES, "a.b", "f.x", ".", "..x", ".9", ".a@1", ".a.b", *RESERVED, ".byte", ".mod"):
            self.refused(BadName, (wrong,), names.add_label, wrong)
        for wrong in (*NO_NAMES, "a.b", ".x", *RESERVED):
            self.refused(BadName, (wrong,), names.add_equation, wrong, 5)
        for wrong in (*NO_NAMES, ".x", *RESERVED, "a.byte", "mod.a", "a.b.set", "a.", "a..b", ".a.b", "a.b.c.d.e.f.g.h.i"):
            self.refused(BadName, (wrong,), names.add_import, wrong)
        self.assertEqual(names.place, ("", "f"))
        self.assertEqual(names.add_label("byte@3"), "byte@3")
        self.assertEqual(names.add_equation("mod@3", ONE), "mod@3")
        self.assertEqual(names.add_import("a.set@1.b.c.d.e.f.g"), "a.set@1.b.c.d.e.f.g")
        self.assertEqual(names.add_label(".bytes"), "f.bytes")

    def test_bad_trees(self):
        names = Names()
        for wrong in (None, "1", 1, (), True, names):
            self.refused(BadTree, (wrong,), names.add_equation, "e", wrong)
        names.add_equation("e", ONE)
        self.refused(BadTree, (5,), names.add_equation, "e", 5)

    def test_300_equations(self):
        names = Names()
        for number in range(300):
            names.add_equation(f"e{number}", ONE)
        self.refused(TooLarge, (300,), names.add_equation, "e", ONE)
        self.refused(Taken, ("e5",), names.add_equation, "e5", ONE)
        self.refused(BadTree, (5,), names.add_equation, "e", 5)
        self.refused(BadName, ("9",), names.add_equation, "9", ONE)
        self.assertEqual(names.add_label("e"), "e")
        self.assertEqual(names.add_import("i"), "i")
        self.assertEqual(len(names.resolved()), 302)

    def test_a_refused_call_changes_nothing(self):
        names = Names()
        names.add_label("a")
        names.open_scope("s")
        names.add_equation("e", ONE)
        before = state(names)
        for call, given in (
            (names.open_scope, ("byte",)), (names.add_label, ("9",)), (names.add_label, (".x",)), (names.add_label, ("e",)),
            (names.add_equation, ("e", ONE)), (names.add_equation, ("x", 5)), (names.add_import, ("a",)),
            (names.add_import, (".q",)),
        ):
            with self.assertRaises((BadName, NoName, Taken, BadTree)):
                call(*given)
            self.assertEqual(state(names), before)


class Searching(Case):
    def test_tried_paths(self):
        names = Names()
        for path, place, wanted in (
            ("p", ("", None), ["p"]), ("p.q", ("", "f"), ["p.q"]), ("p", ("a", None), ["a.p", "p"]),
            ("p.q", ("a.b", "a.b.f"), ["a.b.p.q", "a.p.q", "p.q"]), ("p@2", ("a@1.b.c", None), [
                "a@1.b.c.p@2", "a@1.b.p@2", "a@1.p@2", "p@2",
            ]),
        ):
            self.assertEqual(list(names.tried(path, place)), wanted)

    def test_tried_local_names(self):
        names = Names()
        self.assertEqual(list(names.tried(".x", ("a.b", "a.b.f"))), ["a.b.f.x"])
        self.assertEqual(list(names.tried(".x", ("", "f"))), ["f.x"])
        self.assertEqual(list(names.tried(".x", ("a.b", None))), [])

    def test_search(self):
        names = Names()
        names.add_label("x")
        names.open_scope("a")
        inner = names.place
        names.open_scope("b")
        innermost = names.place
        self.assertEqual(names.search("x", innermost), "x")
        names.close_scope()
        names.add_equation("x", ONE)
        self.assertEqual(names.search("x", innermost), "a.x")
        names.open_scope("b")
        names.add_label("x")
        self.assertEqual(names.search("x", innermost), "a.b.x")
        self.assertEqual(names.search("x", inner), "a.x")
        self.assertEqual(names.search("x", ("", None)), "x")
        self.assertEqual(names.search("b.x", inner), "a.b.x")
        self.assertEqual(names.search("b.x", innermost), "a.b.x")
        self.refused(NoName, ("b.x",), names.search, "b.x", ("", None))
        self.refused(NoName, ("y",), names.search, "y", innermost)

    def test_a_path_is_searched_as_a_whole(self):
        names = Names()
        names.open_scope("s")
        names.open_scope("t")
        place = names.place
        names.add_label("a")
        names.close_scope()
        names.close_scope()
        names.open_scope("t")
        names.add_label("z")
        self.assertEqual(names.search("t.z", place), "t.z")

    def test_search_for_imports(self):
        names = Names()
        names.open_scope("s")
        names.add_import("i.j")
        self.assertEqual(names.search("i.j", names.place), "i.j")
        self.assertEqual(names.search("j", ("i", None)), "i.j")

    def test_search_for_local_names(self):
        names = Names()
        names.add_label("f")
        place = names.place
        self.refused(NoName, (".x",), names.search, ".x", place)
        names.add_label(".x")
        self.assertEqual(names.search(".x", place), "f.x")
        self.assertEqual(names.search(".x", ("q.r", "f")), "f.x")
        self.refused(NoName, (".x",), names.search, ".x", ("", None))
        self.assertEqual(names.search("f.x", ("", None)), "f.x")

    def test_search_for_what_is_no_path(self):
        names = Names()
        for part in "abcdefgh":
            names.open_scope(part)
        names.add_label("x")
        names.add_label(".y")
        place = names.place
        self.assertEqual((names.search("x", place), names.search(".y", place)), ("a.b.c.d.e.f.g.h.x", "a.b.c.d.e.f.g.h.x.y"))
        for given in (
            None, 5, True, False, ("x",), ["x"], [], {}, "", "1", "x@", "x@0", " x", "x ", ".x.y", "..y", "x..y", ".", "x.",
            "a.b.c.d.e.f.g.h.x", "a.b.c.d.e.f.g.h.x.y",
        ):
            self.refused(NoName, (given,), names.search, given, place)
            self.refused(NoName, (given,), names.search, given, ("", None))
        for given in ("mod", "byte", "a.mod", ".mod"):
            self.refused(NoName, (given,), names.search, given, place)
