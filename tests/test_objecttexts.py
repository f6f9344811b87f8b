"""Texts of objects: [59], [60]."""

from assembling_helpers import ObjectCase, form, made
from helpers import LIMIT
from macroasm.errors import BadObject, BadText, TooLarge
from macroasm.lines import RESERVED
from macroasm.objects import joined
from macroasm.objecttexts import object_text, read_object

WHOLE = "\n".join([
    "pieces 3", "section main", "data a:1 1 255 b1:-4+1*1!a-2*x 0", "data a:2<b:100000", "do a:3 jump 0+1*f",
    "do a:4 halt",
    "do a:5 move 5 -18446744073709551616", "section byte", "align c:7 64 255", "space c:8 65536 0",
    "data c:9 b2:0 b4:1+18446744073709551616*f",
    "section empty", "label 1!a main 0", "label 2!s.t@12.f.x byte 3", "label 3!x@1 main 5", "label f empty 0",
    "label g.h main 2",
    "equation 1!e -7", "equation d 0-1*1!a+3*x", "import x", "import y.z",
])


def lines(*told):
    """A text of lines behind a beginning that all share."""
    return "\n".join(["pieces 2", "section main", "data a:1 1", "space a:2 3 0", *told])


class Written(ObjectCase):
    def test_each_kind_of_line(self):
        one = made("f: byte 1, f, 255\nsection s\n.x: jump f - f.x + g\nhalt\nalign 4, 7\nspace 9\ne = f - 4\nexport f, e\nimport g, b\nd = 2\ntext \"\"", "a")
        self.assertEqual(object_text(one), "\n".join([
            "pieces 1", "section main", "data a:1 1 b1:0+1*f 255", "section s", "do a:3 jump 0-1*1!f.x+1*f+1*g",
            "do a:4 halt",
            "align a:5 4 7", "space a:6 9 0", "data a:11", "label 1!f.x s 0", "label f main 0", "equation 1!d 2",
            "equation e -4+1*f",
            "import b", "import g",
        ]))

    def test_nothing(self):
        self.assertEqual(object_text(made("x = 1\nexport x")), "pieces 1\nequation x 1")
        self.assertEqual(object_text(made("section s")), "pieces 1\nsection s")

    def test_joined(self):
        texts = ("f: byte f\nexport f", "f: byte g, f\nimport g", "import g, e\nbyte e", "e = 300\nexport e")
        whole = joined(tuple([made(text, f"t{number}") for number, text in enumerate(texts)]))
        self.assertEqual(object_text(whole), "\n".join([
            "pieces 4", "section main", "data t0:1 b1:0+1*f", "data t1:1 b1:0+1*g b1:0+1*2!f", "data t2:2 b1:300",
            "label 2!f main 1", "label f main 0", "equation e 300", "import g",
        ]))

    def test_what_is_no_object(self):
        for wrong in (None, 5, True, "pieces 1", (), [], {}, made("halt")["main"]):
            self.refused(BadObject, (wrong,), object_text, wrong)


class Read(ObjectCase):
    def test_each_kind_of_line(self):
        whole = read_object(WHOLE)
        self.has(whole, {
            "main": [
                [1, 255, ("b1", (-4, ("1!a", 1), ("x", -2))), 0], [], ("jump", (0, ("f", 1))), ("halt",),
                ("move", (5,), (-LIMIT,)),
            ],
            "byte": [("align", 64, 255), ("space", 65536, 0), [("b2", (0,)), ("b4", (1, ("f", LIMIT)))]],
            "empty": [],
        })
        self.assertEqual((whole.pieces, whole.labels), (3, ("1!a", "2!s.t@12.f.x", "3!x@1", "f", "g.h")))
        self.assertEqual((whole.equations, whole.exports, whole.imports),
            (("1!e", "d"), ("d", "f", "g.h"), ("x", "y.z")))
        self.assertEqual((whole.place_of("g.h"), whole.place_of("2!s.t@12.f.x")), (("main", 2), ("byte", 3)))
        self.assertTrue(whole.form_of("d") == form("3*x-1!a"))
        self.assertEqual([str(one) for one in whole.origins_of("main")][:2], ["a:1", "a:2<b:100000"])

    def test_written_again(self):
        self.assertEqual(object_text(read_object(WHOLE)), WHOLE)
        for text in ("x = 1", "section s\nf: jump f\ntext \"a b\\n\"\ne = 2 * f\nexport e\nimport q\nlong q, f - q",
            "scope s\nf: byte f\n.x: endscope\nword s.f.x"):
            one = made(text)
            self.assertTrue(read_object(object_text(one)) == one)
            self.assertTrue(joined((made("a: byte a"), read_object(object_text(one)))) == joined((made("a: byte a"),
                one)))

    def test_choices_may_have_any_name(self):
        for name in (*RESERVED, "mods", "_", "a" * 40):
            text = f"pieces 1\nsection main\ndo a:1 {name}\ndo a:2 {name} 5"
            whole = read_object(text)
            self.has(whole, {"main": [(name,), (name, (5,))]})
            self.assertEqual(object_text(whole), text)

    def test_least_ones(self):
        for text in ("pieces 1", "pieces 1000000", "pieces 1\nequation e 5", "pieces 1\nimport a",
            "pieces 7\nsection a\nsection b\nlabel 7!a b 0"):
            self.assertEqual(object_text(read_object(text)), text)


class Refused(ObjectCase):
    def at(self, row, word, text):
        self.refused(BadText, (row, word), read_object, text)

    def test_no_strings(self):
        for wrong in (None, 5, True, ("pieces 1",), [], {}, made("halt")):
            self.refused(BadText, (0, 0), read_object, wrong)

    def test_200000_characters(self):
        text = "pieces 1\nsection main"
        line = "\ndata a:1" + " 100" * 1000
        text = text + line * 49
        text = text + "\ndata a:1" + " 1" * ((200000 - len(text) - 9) // 2)
        text = text if len(text) == 200000 else text[:-1] + "10"
        self.assertEqual(len(text), 200000)
        self.assertEqual(len(read_object(text)), 50)
        self.refused(TooLarge, (200000,), read_object, text + "0")
        self.refused(TooLarge, (200000,), read_object, "x" * 200001)

    def test_pieces(self):
        for text, word in (
            ("", 0), ("piece 1", 0), (" pieces 1", 0), ("Pieces 1", 0), ("section main", 0), ("import a", 0),
            ("pieces", 1), ("pieces ", 1),
            ("pieces 0", 1), ("pieces 01", 1), ("pieces -1", 1), ("pieces +1", 1), ("pieces 1000001", 1),
            ("pieces one", 1), ("pieces  1", 1),
            ("pieces 1 ", 2), ("pieces 1 1", 2), ("pieces 99999999999999999999999", 1), ("pieces 1.0", 1),
            ("pieces 1_0", 1), ("pieces 0x1", 1),
            ("pieces " + "9" * 5000, 1), ("pieces " + "0" * 5000, 1),
        ):
            self.at(1, word, text)

    def test_lines(self):
        for line, word in (
            ("", 0), (" ", 0), ("pieces 2", 0), ("sections a", 0), ("halt", 0), (" section a", 0), ("section", 1),
            ("section ", 1),
            ("section 1a", 1), ("section a.b", 1), ("section a@1", 1), ("section main", 1), ("section a b", 2),
            ("section a ", 2), ("section  a", 1),
            ("section " + "a" * 41, 1),
        ):
            self.at(5, word, lines(line, "nothing"))
        self.at(5, 0, lines(""))
        self.at(2, 0, "pieces 1\n")
        self.at(2, 0, "pieces 1\npieces 1")

    def test_without_a_section(self):
        for line in ("data a:1 1", "do a:1 halt", "align a:1 1 0", "space a:1 1 0", "label f main 0", "data", "label"):
            self.at(2, 0, "pieces 1\n" + line)

    def test_fragments(self):
        for line, word in (
            ("data", 1), ("data ", 1), ("data a", 1), ("data a:0", 1), ("data a:01", 1), ("data a:1<", 1),
            ("data a:100001", 1), ("data 1:1", 1),
            ("data " + "<".join(["a:1"] * 201), 1), ("data a:1 ", 2), ("data a:1 256", 2), ("data a:1 -1", 2),
            ("data a:1 00", 2), ("data a:1 -0", 2),
            ("data a:1 1 2 x", 4), ("data a:1 b3:1", 2), ("data a:1 b1:", 2), ("data a:1 b1", 2), ("data a:1 :1", 2),
            ("data a:1 u1:1", 2), ("data a:1  1", 2),
            ("data a:1 b1:01", 2), ("data a:1 B1:1", 2), ("data a:1 b1:1:2", 2),
            ("do", 1), ("do a:1", 2), ("do a:1 ", 2), ("do a:1 1a", 2), ("do a:1 a.b", 2), ("do a:1 a@1", 2),
            ("do a:1 " + "a" * 41, 2), ("do a:1 byte go", 3), ("do a:1 mod ", 3), ("do a:1 go ", 3),
            ("do a:1 go 1 x", 4),
            ("do a:1 go 1 2 3 4 5", 7), ("do a:1 go 1 2 3 4 x", 7), ("do a:1 go b1:1", 3), ("do a:x go x", 1),
            ("align a:1", 2), ("align a:1 4", 3), ("align a:1 3 0", 2), ("align a:1 0 0", 2), ("align a:1 128 0", 2),
            ("align a:1 -4 0", 2), ("align a:1 04 0", 2),
            ("align a:1 4 256", 3), ("align a:1 4 -1", 3), ("align a:1 4 0 0", 4), ("align a:1 4 0 ", 4),
            ("space a:1", 2), ("space a:1 65537 0", 2), ("space a:1 -1 0", 2), ("space a:1 1", 3),
            ("space a:1 1 x", 3), ("space a:1 1 -1", 3), ("space a:1 1 256", 3), ("space a:1 1 1 1", 4),
        ):
            self.at(5, word, lines(line, "nothing"))

    def test_forms(self):
        big = LIMIT + 1
        for text in (
            "", "x", "+5", "--5", "5x", "05", "-05", "-0", "5+", "5-", "5+x", "5+x*1", "5+*x", "5+0*f", "5-0*f",
            "5+01*f", "5+-1*f", "5--1*f", "5++1*f",
            "5+1*", "5+1*f/g", "5+1*f+1*f", "5+1*f+1*e", "5+1*f*g", "5*f", f"{big}", f"-{big}", f"0+{big}*f",
            f"0-{big}*f", "5+1*f+", "1+1*",
            "0" + "".join([f"+1*f{number:02}" for number in range(17)]), "0+1*" + "f" * 501, "5+1.0*f", "5+_1*f", "1e5",
        ):
            self.at(5, 3, lines("do a:1 go " + text, "import e", "import f"))
            self.at(5, 2, lines("data a:1 b1:" + text, "import e", "import f"))
            self.at(5, 2, lines("equation d " + text, "import e", "import f"))
        for text in ("5+1*e+1*f", "-5-1*e", "0", f"{LIMIT}-{LIMIT}*f"):
            self.assertEqual(len(read_object(lines("do a:1 go " + text, "import e", "import f"))), 3)
        text = lines("do a:1 go 0" + "".join([f"+1*f{number:02}" for number in range(16)]),
            *[f"import f{number:02}" for number in range(16)])
        self.assertEqual(object_text(read_object(text)), text)

    def test_labels(self):
        for line, word in (
            ("label", 1), ("label ", 1), ("label f", 2), ("label f ", 2), ("label f s", 2), ("label f main", 3),
            ("label f main ", 3), ("label f main 3", 3),
            ("label f main -1", 3), ("label f main 00", 3), ("label f main x", 3), ("label f main 2 0", 4),
            ("label f main 2 ", 4), ("label f 0 0", 2),
            ("equation", 1), ("equation e", 2), ("equation e ", 2), ("equation e 5 5", 3), ("equation e main 5", 2),
            ("import", 1), ("import ", 1), ("import a b", 2),
        ):
            self.at(5, word, lines(line, "nothing"))
        for index in range(3):
            self.assertEqual(read_object(lines(f"label f main {index}")).place_of("f"), ("main", index))

    def test_names(self):
        full = "a.b.c.d.e.f.g.h"
        for name in (
            "", "1", ".x", "f.", "f..g", "f@1", "a.f@1", "a@1.f", "byte", "a.byte", "byte.a", "mod", "1!", "!f",
            "0!f", "01!f", "3!f", "-1!f", "x!f", "1!1!f",
            "1!byte", "1!a.set", "1!.x", "1!f@0", "1!f@", "1!f@1234567890", "1!" + "a" * 41, full + ".i",
            "1!" + full + ".i.j.k", "1!" + full + ".i.j@1", "1!" + full + ".i@1.j",
            "2!1", "f!", "f!1", "@f", "a+b",
        ):
            self.at(5, 1, lines(f"label {name} main 0"))
            if name.count(".") < 9:
                self.at(5, 1, lines(f"equation {name} 0"))
        for name in ("1!f", "2!f", "", "f@1", "a@1.f", "byte", "a.byte", ".x", full + ".i", "1"):
            self.at(5, 1, lines(f"import {name}"))
        for name in (full, "1!" + full + ".i", "2!" + full + ".i.j", "1!a@1.f@2", "2!byte@3", "bytes",
            "1!" + full + ".i@1", "a" * 40, "1!a@123456789.f.x"):
            self.assertEqual(read_object(lines(f"label {name} main 0")).labels, (name,))
        self.assertEqual(read_object(lines(f"import {full}")).imports, (full,))

    def test_order_of_lines(self):
        for line in ("section s", "data a:1 1", "do a:1 halt", "align a:1 1 0", "space a:1 1 0", "pieces 2"):
            for told in ("label f main 0", "equation f 0", "import f"):
                self.at(6, 0, lines(told, line))
        self.at(6, 0, lines("equation f 0", "label g main 0"))
        self.at(6, 0, lines("import f", "label g main 0"))
        self.at(6, 0, lines("import f", "equation g 0"))

    def test_order_of_names(self):
        for one, other in (("f", "f"), ("g", "f"), ("f", "2!f"), ("1!f", "1!f"), ("1!g", "1!f"), ("f", "F"),
            ("f.a", "f"), ("2!f", "1!g")):
            self.at(6, 1, lines(f"label {one} main 0", f"label {other} main 0"))
            self.at(6, 1, lines(f"equation {one} 0", f"equation {other} 0"))
        for one, other in (("f", "f"), ("g", "f"), ("f.a", "f")):
            self.at(6, 1, lines(f"import {one}", f"import {other}"))
        self.assertEqual(read_object(lines("label z main 0", "equation a 0", "import A")).exports, ("a", "z"))

    def test_names_told_twice(self):
        self.at(6, 1, lines("label f main 0", "equation f 0"))
        self.at(6, 1, lines("label 1!f main 0", "equation 1!f 0"))
        self.at(6, 1, lines("label f main 0", "import f"))
        self.at(6, 1, lines("equation f 0", "import f"))
        self.assertEqual(read_object(lines("label 1!f main 0", "equation 2!f 0", "import f")).imports, ("f",))

    def test_names_in_forms_come_last(self):
        self.at(5, 3, lines("do a:1 go 0+1*f"))
        self.at(5, 4, lines("do a:1 go 0+1*f 0+1*g 0+1*h", "label f main 0"))
        self.at(5, 3, lines("data a:1 5 b1:0+1*f+1*g", "label f main 0"))
        self.at(6, 2, lines("equation e 5", "equation f 0+1*e"))
        self.at(5, 2, lines("equation e 0+1*1!g", "import g"))
        self.at(6, 0, lines("do a:1 go 0+1*f", "nothing"))
        self.at(7, 1, lines("do a:1 go 0+1*f", "label g main 0", "import 1"))
        self.assertEqual(len(read_object(lines("do a:1 go 0+1*f+1*g", "label f main 0", "import g"))), 3)
