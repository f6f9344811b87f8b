"""Images: [63] to [65], [68]."""

from assembling_helpers import TABLE, ObjectCase, made
from helpers import LIMIT
from macroasm.errors import NoName, NoOrigin, TooLarge
from macroasm.linking import assembled, link
from macroasm.tables import Table


def image(*texts, base=0):
    """The image of texts that are expanded and assembled first, each with a name of its own."""
    objects = [assembled(text, TABLE, name=f"t{number}") for number, text in enumerate(texts)]
    return link(tuple(objects), TABLE, base=base)


class Sections(ObjectCase):
    def test_addresses_and_cells(self):
        found = image("byte 1, 2, 3\nsection a\nf: align 4, 9\nbyte 4\nspace 2, 7\nsection empty\nsection b\nhalt\nword f", base=2)
        self.assertEqual(found.sections, (("main", 2, (1, 2, 3)), ("a", 8, (4, 7, 7)), ("empty", 11, ()), ("b", 11,
            (8, 8, 0))))
        self.assertEqual((found.base, len(found), found.exports, found.growths), (2, 9, (), ()))

    def test_nothing(self):
        found = image("x = 1")
        self.assertEqual((found.sections, len(found), list(found.ranges()), found.listing(), 0 in found),
            ((), 0, [], "", False))
        found = image("section s", base=5)
        self.assertEqual((found.sections, len(found), found.listing()), ((("s", 5, ()),), 0, "section s 5"))

    def test_several_objects(self):
        found = image("byte 1\nsection a\nbyte 2\nf:\nexport f", "section b\nbyte 3, f\nsection a\nbyte 4\nimport f")
        self.assertEqual(found.sections, (("main", 0, (1,)), ("a", 1, (2, 4)), ("b", 3, (3, 2))))
        self.assertEqual([(name, index, address, count, str(origin)) for name, index, address, count,
            origin in found.ranges()], [
            ("main", 0, 0, 1, "t0:1"), ("a", 0, 1, 1, "t0:3"), ("a", 1, 2, 1, "t1:4"), ("b", 0, 3, 2, "t1:2"),
        ])


class Ranges(ObjectCase):
    TEXT = "align 8\nf: byte 1\nspace 0\ntext \"\"\nalign 4, 5\njump f\nspace 3, 6\nsection s\nload 0\nalign 8, 1\nsection t\nlong f - 1"

    def test_each_cell_once(self):
        found = image(self.TEXT, base=6)
        told = list(found.ranges())
        self.assertEqual([row[:4] for row in told], [
            ("main", 1, 8, 1), ("main", 4, 9, 3), ("main", 5, 12, 2), ("main", 6, 14, 3), ("s", 0, 24, 1),
            ("s", 1, 25, 7), ("t", 0, 32, 4),
        ])
        covered = [address + place for _, _, address, count, _ in told for place in range(count)]
        self.assertEqual(covered, [address + place for _, address,
            cells in found.sections for place in range(len(cells))])
        self.assertEqual([found[address] for address in covered],
            [cell for _, _, cells in found.sections for cell in cells])
        for name, index, address, count, origin in told:
            for place in range(count):
                self.assertTrue(found.origin_at(address + place) == origin)
        self.assertEqual([str(row[4]) for row in told], ["t0:2", "t0:5", "t0:6", "t0:7", "t0:9", "t0:10", "t0:12"])

    def test_where_no_cell_is(self):
        found = image(self.TEXT, base=6)
        for wrong in (5, 6, 7, 17, 20, 23, 36, 37, -1, 2 ** 41, None, True, False, "8", (), (8,), [], {}):
            self.assertFalse(wrong in found)
            self.refused(NoOrigin, (wrong,), found.origin_at, wrong)
            self.refused(NoOrigin, (wrong,), found.__getitem__, wrong)
        for address in (8, 9, 11, 16, 24, 31, 35):
            self.assertTrue(address in found)
        with self.assertRaises(TypeError):
            list(found)

    def test_origins_through_repeats_and_macros(self):
        text = "macro inner p\nbyte $p\nendmacro\nmacro outer p\ninner $p\nrepeat 2, i\ninner $(i + 1)\nendrepeat\nendmacro\nhalt\nrepeat 2\nouter 7\nendrepeat"
        found = image(text)
        self.assertEqual(found.sections, (("main", 0, (8, 7, 1, 2, 7, 1, 2)),))
        one, two = "t0:2<t0:5<t0:12<t0:11", "t0:2<t0:7<t0:6<t0:12<t0:11"
        self.assertEqual([str(found.origin_at(address)) for address in range(7)],
            ["t0:10", one, two, two, one, two, two])
        self.assertTrue(found.origin_at(2) == found.origin_at(3))
        self.assertEqual([count for _, _, _, count, _ in found.ranges()], [1] * 7)


class Values(ObjectCase):
    def test_labels_and_equations(self):
        found = image("f: byte 1\ng: halt\ne = 2 * g - f + h\nc = -5\nexport f, e, c\nimport h",
            "section s\nh:\nexport h\nz = h\nexport z", base=16)
        self.assertEqual(found.exports, ("c", "e", "f", "h", "z"))
        self.assertEqual([found.value(name) for name in found.exports], [-5, 36, 16, 18, 18])
        for wrong in ("g", "1!g", "x", "s", "", None, 5, True, ("f",), [], {}):
            self.refused(NoName, (wrong,), found.value, wrong)

    def test_values_that_are_too_large(self):
        found = image(f"halt\nf:\ne = {LIMIT} - 1 + f\nd = f - {LIMIT}\nb = {LIMIT} * f\nexport e, d, b")
        self.assertEqual((found.value("e"), found.value("b"), found.value("d")), (LIMIT, LIMIT, 1 - LIMIT))
        found = image(f"halt\nhalt\nf:\ne = {LIMIT} - 1 + f\nb = {LIMIT} * f\nc = f\nexport e, b, c")
        self.refused(TooLarge, (LIMIT,), found.value, "e")
        self.refused(TooLarge, (LIMIT,), found.value, "b")
        self.assertEqual(found.value("c"), 2)

    def test_uses(self):
        text = "f: jump f\nbyte 1, e, f\nmove f - f, g\ng: load e - f + 1\nspace 1\nword d\ne = f + g\nd = 2 * e - g\nexport f, g, e, d"
        found = image(text, "long f\nimport f, q\nsection s\nword q - f",
            "import d\nbyte d\nexport q\nq = d - f - f\nimport f", base=4)
        self.assertEqual([row[2] for row in found.ranges()], [4, 6, 9, 12, 14, 15, 17, 21, 22])
        self.assertEqual(found.uses_of("f"), (4, 6, 15, 17, 21, 22))
        self.assertEqual(found.uses_of("g"), (6, 9, 12, 15, 21, 22))
        for wrong in ("e", "d", "q", "x", "1!f", "", None, 5, True, ("f",), [], {}):
            self.refused(NoName, (wrong,), found.uses_of, wrong)

    def test_uses_of_none(self):
        found = image("f:\ng: byte g\nexport f")
        self.assertEqual(found.uses_of("f"), ())
        self.refused(NoName, ("g",), found.uses_of, "g")
        self.refused(NoName, ("1!g",), found.uses_of, "1!g")

    def test_equality(self):
        text = "f: byte 1\nsection s\nhalt\nexport f"
        one = image(text)
        self.assertTrue(one == image(text) and one == image("\n" + text.replace("byte 1", "byte 2 - 1")))
        self.assertTrue(one == image("byte 1\nsection s\nhalt\nf = 0\nexport f"))
        self.assertTrue(one == image("f: byte 1\nsection s\nexport f", "section s\nhalt"))
        for other in (text.replace("byte 1", "byte 2"), text.replace("section s", "section t"),
            text.replace("export f", ""), text + "\nsection u", text.replace("f: byte 1", "byte 1\nf:"),
                text + "\ng:\nexport g"):
            self.assertFalse(one == image(other))
        self.assertFalse(one == image(text, base=1))
        for value in (None, 5, one.sections, one.listing(), (), [], {}, made(text)):
            self.assertFalse(one == value)


class Growths(ObjectCase):
    def test_none(self):
        self.assertEqual(image("f: jump f\nload 0").growths, ())

    def test_one_pass(self):
        found = image("jump far\nspace 128\nfar: load far - far\nload 300", base=16)
        self.assertEqual(found.growths, ((1, "main", 0, 0, 1, 0, 128), (1, "main", 3, 0, 2, 0, 300)))
        self.assertEqual(found.sections[0][2][:5], (2, 128, 0, 0, 0))

    def test_several_passes_and_sections(self):
        text = "jump far\nspace 124\nnear: jump far2\nload 0\nfar: section s\na: jump near\nspace 127\nfar2: move 300, 1\nload -1"
        found = image(text, base=64)
        self.assertEqual(found.growths, (
            (1, "main", 2, 0, 1, 0, 130), (1, "s", 2, 0, 1, 0, 300), (1, "s", 3, 0, 2, 0, -1),
            (2, "main", 0, 0, 1, 0, 130),
        ))

    def test_a_chain_of_passes(self):
        found = image("jump b\nspace 124\njump c\nb: space 123\njump d\nc: space 128\nd:")
        self.assertEqual(found.growths, ((1, "main", 4, 0, 1, 0, 128), (2, "main", 2, 0, 1, 0, 128), (3, "main", 0, 0,
            1, 0, 129)))
        found = image("f: space 127\njump f\nmove 1, f", base=129)
        self.assertEqual(found.growths, ((1, "main", 1, 0, 1, 0, -129),))

    def test_the_first_operand_that_does_not_fit(self):
        found = image("f: space 256\ng: move 255, g\nmove 300, g\nmove g, 1")
        self.assertEqual(found.growths, ((1, "main", 1, 0, 1, 1, 256), (1, "main", 2, 0, 1, 0, 300), (1, "main", 3, 0,
            1, 0, 256)))

    def test_numbers_and_labels(self):
        found = image("f: load f\nload g - g\ng:", base=0)
        self.assertEqual(found.growths, ((1, "main", 0, 0, 1, 0, 0),))
        self.assertEqual(found.sections, (("main", 0, (4, 0, 3)),))


class Listings(ObjectCase):
    def test_the_example_of_the_document(self):
        table = Table(("jump", (((1,), ("r1",)),)))
        whole = assembled("f: jump f\nbyte 7, f", table)
        wanted = "section main 16\n16: 1 254 ; main:1\n18: 7 16 ; main:2"
        self.assertEqual(link((whole,), table, base=16).listing(), wanted)

    def test_sections_and_origins(self):
        text = "section e\nsection a\nrepeat 2\nbyte 1\nendrepeat\nspace 0\nsection main\nalign 4, 3\nsection a\nhalt"
        self.assertEqual(image(text, base=5).listing(), "\n".join([
            "section e 5", "section a 5", "5: 1 ; t0:4<t0:3", "6: 1 ; t0:4<t0:3", "7: 8 ; t0:10", "section main 8",
        ]))
        self.assertEqual(image("byte 1\nalign 4, 3\ntext \"ab\"").listing(),
            "section main 0\n0: 1 ; t0:1\n1: 3 3 3 ; t0:2\n4: 97 98 ; t0:3")
