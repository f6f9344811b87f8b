"""Plain lines that become objects: [54] to [56]."""

from assembling_helpers import TABLE, ObjectCase, form, lines_of, made, told
from macroasm.assembling import object_of
from macroasm.errors import NoName
from macroasm.objecttexts import read_object
from macroasm.origins import Origin


class Sections(ObjectCase):
    def test_begun_gone_on_with_and_left_empty(self):
        whole = made("byte 1\nsection a\nbyte 2\nsection b\nsection main\nbyte 3\nsection a\nbyte 4\nsection b\nsection c")
        self.has(whole, {"main": [[1], [3]], "a": [[2], [4]], "b": [], "c": []})

    def test_main(self):
        self.has(made("section a"), {"a": []})
        self.has(made("section main"), {"main": []})
        self.has(made("section a\nsection main"), {"a": [], "main": []})
        self.has(made("section a\nbyte 1\nsection main\nbyte 2\nsection b"), {"a": [[1]], "main": [[2]], "b": []})
        self.has(made("f:\nsection a"), {"main": [], "a": []})
        self.has(made("f: section a"), {"main": [], "a": []})
        self.has(made("byte 1\nsection a\nsection main"), {"main": [[1]], "a": []})
        self.has(made("space 0\nsection a"), {"main": [("space", 0, 0)], "a": []})

    def test_what_is_no_content(self):
        text = "x = 1\nimport q\nexport x\nscope s\nendscope\nsection a\nbyte 1"
        self.has(made(text), {"a": [[1]]})
        whole = object_of((), TABLE)
        self.assertEqual((whole.sections, len(whole), whole.pieces), ((), 0, 1))
        self.assertEqual((whole.labels, whole.equations, whole.exports, whole.imports), ((), (), (), ()))

    def test_places_of_labels(self):
        whole = made("a: byte 1\nb:\nc: byte 2\nd: section s\ne: space 2\nf:\nsection main\ng:\nbyte 3\nh:")
        places = {name[2:]: whole.place_of(name) for name in whole.labels}
        self.assertEqual(places, {
            "a": ("main", 0), "b": ("main", 1), "c": ("main", 1), "d": ("main", 2), "e": ("s", 0), "f": ("s", 1),
            "g": ("main", 2), "h": ("main", 3),
        })


class Fragments(ObjectCase):
    def test_data(self):
        whole = made("f: byte 1, f, 255, -128\nword 258, f + 1, -1\nlong 16909060, 2 * f, -2\nbyte 'a' + 1, f - f, 0 * f")
        self.has(whole, {"main": [
            [1, ("b1", (0, ("1!f", 1))), 255, 128],
            [2, 1, ("b2", (1, ("1!f", 1))), 255, 255],
            [4, 3, 2, 1, ("b4", (0, ("1!f", 2))), 254, 255, 255, 255],
            [98, 0, 0],
        ]})

    def test_bounds(self):
        for word, many in (("byte", 1), ("word", 2), ("long", 4)):
            least, most = -(2 ** (8 * many - 1)), 2 ** (8 * many) - 1
            cells = [[value >> 8 * place & 255 for place in range(many)] for value in (least, most)]
            self.has(made(f"{word} {least}, {most}"), {"main": [cells[0] + cells[1]]})

    def test_texts(self):
        self.has(made("text \"a\\n\\\"\\\\'~ ;\"\ntext \"\""), {"main": [[97, 10, 34, 92, 39, 126, 32, 59], []]})

    def test_instructions(self):
        whole = made("f: jump f - 2\nmove 1 << 4, g\nhalt\nimport g")
        self.has(whole, {"main": [("jump", (-2, ("1!f", 1))), ("move", (16,), (0, ("g", 1))), ("halt",)]})

    def test_gaps_and_alignments(self):
        whole = made("n = 3\nspace n\nspace 2 + 1, 'a'\nalign 1 << n, 255\nf:\ng: align 4\nspace f - f")
        self.has(whole, {"main": [
            ("space", 3, 0), ("space", 3, 97), ("align", 8, 255), ("align", 4, 0), ("space", 0, 0),
        ]})


class FullNames(ObjectCase):
    def test_scopes(self):
        whole = made("scope s\nf:\n.x:\nscope t@1\ny@2:\nz = f + f.x + y@2\nendscope\nendscope\ng: byte s.t@1.z, s.f.x\n.x:")
        self.assertEqual(whole.labels, ("1!g", "1!g.x", "1!s.f", "1!s.f.x", "1!s.t@1.y@2"))
        self.assertEqual(whole.equations, ("1!s.t@1.z",))
        wanted = (0, ("1!s.f", 1), ("1!s.f.x", 1), ("1!s.t@1.y@2", 1))
        self.assertEqual(told(whole.form_of("1!s.t@1.z")), wanted)
        self.has(whole, {"main": [[("b1", wanted), ("b1", (0, ("1!s.f.x", 1)))]]})

    def test_local_names_need_a_last_label_of_their_scope(self):
        whole = made("f:\nscope s\ng:\n.x: byte .x\nendscope\n.x: byte .x, s.g.x")
        self.assertEqual(whole.labels, ("1!f", "1!f.x", "1!s.g", "1!s.g.x"))
        self.has(whole, {"main": [
            [("b1", (0, ("1!s.g.x", 1)))], [("b1", (0, ("1!f.x", 1))), ("b1", (0, ("1!s.g.x", 1)))],
        ]})

    def test_a_label_belongs_to_the_scope_ahead(self):
        whole = made("a: scope s\nb: endscope\nc:\nf: byte s.b, .x\n.x:")
        self.assertEqual(whole.labels, ("1!a", "1!c", "1!f", "1!f.x", "1!s.b"))
        self.has(whole, {"main": [[("b1", (0, ("1!s.b", 1))), ("b1", (0, ("1!f.x", 1)))]]})

    def test_forward_names_are_searched_outwards(self):
        whole = made("scope s\nscope t\nbyte x, t.x, s.x\nendscope\nx:\nendscope\nx:\nscope s\nscope t\nx:\nendscope\nendscope")
        self.has(whole, {"main": [[("b1", (0, ("1!s.t.x", 1))), ("b1", (0, ("1!s.t.x", 1))), ("b1", (0, ("1!s.x",
            1)))]]})

    def test_exports_and_imports_from_within_scopes(self):
        text = "scope s\nexport s.f, e\nimport q.r, m\nf: byte q.r, m\nendscope\ne = q.r + s.f\nbyte e, q.r"
        whole = made(text)
        self.assertEqual((whole.exports, whole.imports), (("e", "s.f"), ("m", "q.r")))
        self.assertEqual((whole.labels, whole.equations), (("s.f",), ("e",)))
        self.has(whole, {"main": [
            [("b1", (0, ("q.r", 1))), ("b1", (0, ("m", 1)))],
            [("b1", (0, ("q.r", 1), ("s.f", 1))), ("b1", (0, ("q.r", 1)))],
        ]})
        self.assertTrue(whole.form_of("e") == form("q.r+s.f"))
        turned = "\n".join([line for line in text.split("\n") if "port" not in line] + ["import q.r, m",
            "export s.f, e"])
        self.assertTrue(made(turned).is_like(whole))

    def test_private_names(self):
        whole = made("x: byte x\n.y:\ne = x - .y\nz@1 = e + 1\nword z@1\nexport x\na:")
        self.assertEqual((whole.labels, whole.equations, whole.exports),
            (("1!a", "1!x.y", "x"), ("1!e", "1!z@1"), ("x",)))
        self.assertTrue(whole.form_of("1!e") == form("x-1!x.y") and whole.form_of("1!z@1") == form("x-1!x.y+1"))
        self.has(whole, {"main": [[("b1", (0, ("x", 1)))], [("b2", (1, ("1!x.y", -1), ("x", 1)))]]})

    def test_equations_of_equations(self):
        whole = made("a = b * 2\nb = c - d\nc: byte a\nd: byte b - c + d, 4 / 2")
        self.assertTrue(whole.form_of("1!a") == form("2*1!c-2*1!d"))
        self.has(whole, {"main": [[("b1", (0, ("1!c", 2), ("1!d", -2)))], [0, 2]]})


class Properties(ObjectCase):
    def setUp(self):
        self.whole = made("f: byte f\nsection s\nhalt\ng:\ne = g + 1\nb = 2\nimport z, y\nexport g, e\nhalt")

    def test_in_their_order(self):
        told_now = (
            self.whole.pieces, self.whole.sections, self.whole.labels, self.whole.equations, self.whole.exports,
            self.whole.imports, len(self.whole),
        )
        self.assertEqual(told_now, (1, ("main", "s"), ("1!f", "g"), ("1!b", "e"), ("e", "g"), ("y", "z"), 3))

    def test_sections(self):
        self.assertEqual((self.whole["s"].name, len(self.whole["s"]), len(self.whole["main"])), ("s", 2, 1))
        self.assertEqual([str(one) for one in self.whole.origins_of("s")], ["main:3", "main:9"])
        self.assertEqual(self.whole.origins_of("main"), (Origin(("main", 1)),))
        for wrong in ("t", "", "f", "g", None, 5, True, ("s",), [], {}):
            self.refused(NoName, (wrong,), self.whole.__getitem__, wrong)
            self.refused(NoName, (wrong,), self.whole.origins_of, wrong)
        with self.assertRaises(TypeError):
            list(self.whole)

    def test_names(self):
        self.assertEqual((self.whole.place_of("1!f"), self.whole.place_of("g")), (("main", 0), ("s", 1)))
        self.assertTrue(self.whole.form_of("e") == form("g+1") and self.whole.form_of("1!b") == form("2"))
        for wrong in ("f", "e", "1!b", "s", "y", "", None, 5, True, ("g",), [], {}):
            self.refused(NoName, (wrong,), self.whole.place_of, wrong)
        for wrong in ("b", "g", "1!f", "s", "y", "", None, 5, True, ("e",), [], {}):
            self.refused(NoName, (wrong,), self.whole.form_of, wrong)

    def test_in(self):
        for name in ("1!f", "g", "1!b", "e"):
            self.assertTrue(name in self.whole)
        for value in ("f", "b", "y", "z", "main", "s", "", None, 0, 1, True, (), ("g",), [], {}, self.whole):
            self.assertFalse(value in self.whole)

    def test_equality(self):
        text = "f: byte f, 1\nsection s\nhalt\ne = f\nimport z\nexport e"
        one = made(text)
        self.assertTrue(one == made(text) and one.is_like(made(text)))
        moved = made(text, "other")
        self.assertTrue(one.is_like(moved) and moved.is_like(one))
        self.assertFalse(one == moved)
        for other in (
            text.replace("f, 1", "f, 2"), text.replace("halt", "halt\nhalt"), text.replace("section s", "section t"),
                text + "\nsection u",
            text.replace("= f", "= f + 1"), text.replace("import z", "import y"), text.replace("export e", "export f"),
            text + "\nb = 1", text + "\ng:",
        ):
            self.assertFalse(one == made(other) or one.is_like(made(other)) or made(other) == one, other)
        twice = read_object("pieces 2")
        self.assertFalse(twice == read_object("pieces 1") or twice.is_like(read_object("pieces 1")))
        for value in (None, 5, "main", text, (), [], {}, one["main"], one.sections):
            self.assertFalse(one == value or one.is_like(value))

    def test_origins_are_those_of_the_lines(self):
        origin = Origin(("a", 3), ("b", 7))
        whole = object_of((("halt", origin), ("f:", Origin(("c", 1))), ("halt", origin)), TABLE)
        self.assertEqual(whole.origins_of("main"), (origin, origin))

    def test_equal_lines_at_several_places(self):
        text = "f:\n.x: byte .x\ng:\n.x: byte .x\nscope s\nh:\n.x: byte .x\nendscope"
        self.has(made(text), {"main": [[("b1", (0, (name, 1)))] for name in ("1!f.x", "1!g.x", "1!s.h.x")]})
        self.assertEqual(len(object_of(lines_of("\n".join(["halt"] * 5000)), TABLE)), 5000)
