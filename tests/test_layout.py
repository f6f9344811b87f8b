"""Layouts: [45], [46], [48], and what they tell and refuse."""

from helpers import LIMIT, Case
from macroasm.errors import (
    BadName, BadNumber, BadObject, BadOperands, NoInstruction, NoName, OutOfRange, TooLarge,
)
from macroasm.fragments import Alignment, Choice, Data, Gap, Section
from macroasm.layout import Layout
from macroasm.linear import Linear
from macroasm.tables import Table

LOAD = ("load", (((1,), (("n", 0),)), ((2,), ("u1",)), ((3, 0), ("s2",))))
JUMP = ("jump", (((4,), ("r1",)), ((5,), ("r4",))))
HALT = ("halt", (((6,), ()),))
TABLE = Table(LOAD, JUMP, HALT)
A = Linear.single("a")
B = Linear.single("b")
HALTS = Choice("halt")


def laid(*fragments, labels=None, base=0):
    """The layout of one section, labels by the indexes of fragments."""
    places = {label: ("main", index) for label, index in (labels or {}).items()}
    return Layout((Section("main", *fragments),), places, TABLE, base=base)


class Addresses(Case):
    def test_labels(self):
        layout = laid(Data(1, 2), Gap(3), HALTS, Data(("b4", A)), labels={"a": 0, "b": 1, "c": 2, "d": 3, "e": 4, "f": 4})
        self.assertEqual([layout(label) for label in "abcdef"], [0, 2, 5, 6, 10, 10])
        self.assertEqual([layout.spot("main", index) for index in range(5)], [0, 2, 5, 6, 10])

    def test_labels_at_alignments(self):
        layout = laid(Data(1), Alignment(4), Data(2), Alignment(8, 7), labels={"a": 1, "b": 2, "c": 3, "d": 4}, base=1)
        self.assertEqual([layout(label) for label in "abcd"], [9, 12, 13, 16])
        self.assertEqual([layout.cells_of("main", index) for index in range(4)], [(1,), (0, 0, 0), (2,), (7, 7, 7)])
        self.assertEqual(laid(Alignment(4), base=8).cells_of("main", 0), ())
        self.assertEqual(laid(Alignment(1, 5), base=7).cells_of("main", 0), ())

    def test_where_sections_begin(self):
        sections = (
            Section("a", Data(1, 2, 3)), Section("b", Data(9), Alignment(4), Alignment(2)), Section("c"),
            Section("d", Alignment(16), Data(8)), Section("e", Gap(2, 6)),
        )
        labels = {"x": ("c", 0), "y": ("a", 1), "z": ("e", 1)}
        layout = Layout(sections, labels, TABLE, base=2)
        self.assertEqual(list(layout.parts()), [
            ("a", 2, (1, 2, 3)), ("b", 8, (9, 0, 0, 0)), ("c", 12, ()), ("d", 16, (8,)), ("e", 17, (6, 6)),
        ])
        self.assertEqual((layout("x"), layout("y"), layout("z")), (12, 5, 19))
        self.assertEqual((layout.sections, layout.base), (sections, 2))

    def test_bases(self):
        for base in (0, 7, 2 ** 32):
            layout = laid(Data(("b1", A - B)), HALTS, labels={"a": 1, "b": 0}, base=base)
            self.assertEqual((layout("a"), layout.base, layout.spot("main", 2)), (base + 1, base, base + 2))
            self.assertEqual(list(layout.parts()), [("main", base, (1, 6))])

    def test_nothing(self):
        layout = Layout((), {}, TABLE)
        self.assertEqual((list(layout.parts()), list(layout.passes()), layout.fits(())), ([], [()], True))
        self.assertEqual(list(laid().parts()), [("main", 0, ())])


class Cells(Case):
    def test_data(self):
        layout = laid(
            Data(1, ("b1", A - 3), ("b2", Linear(0x1234)), 255, ("b4", -A - 5)), Data(), Data(("b2", B * 2 - A)),
            labels={"a": 1, "b": 2},
        )
        self.assertEqual(layout("a"), 9)
        self.assertEqual(layout.cells_of("main", 0), (1, 6, 0x34, 0x12, 255, 242, 255, 255, 255))
        self.assertEqual((layout.cells_of("main", 1), layout.cells_of("main", 2)), ((), (9, 0)))

    def test_gaps(self):
        layout = laid(Gap(3, 9), Gap(0), Gap(2))
        self.assertEqual([layout.cells_of("main", index) for index in range(3)], [(9, 9, 9), (), (0, 0)])

    def test_choices(self):
        layout = laid(
            Choice("load", (Linear(0),)), Choice("load", (A,)), Choice("load", (A - B,)), Choice("jump", (A,)), HALTS,
            labels={"a": 0, "b": 4}, base=10,
        )
        self.assertEqual(list(layout.parts()), [("main", 10, (1, 2, 10, 3, 0, 247, 255, 4, 247, 6))])
        self.assertEqual([layout.form_of("main", index) for index in range(5)], [0, 1, 2, 0, 0])
        self.assertEqual(layout.cells_of("main", 2), (3, 0, 247, 255))

    def test_a_number_alone_fits_no_label(self):
        layout = laid(Choice("load", (A,)), Choice("load", (A - A,)), labels={"a": 0})
        self.assertEqual(list(layout.parts())[0][2], (2, 0, 1))
        layout = laid(Choice("load", (A - B,)), labels={"a": 0, "b": 0})
        self.assertEqual(layout.form_of("main", 0), 1)

    def test_values_have_no_bound_here(self):
        layout = laid(HALTS, Choice("load", (LIMIT * A - LIMIT * B + 5,)), labels={"a": 1, "b": 1}, base=9)
        self.assertEqual(layout.cells_of("main", 1), (2, 5))
        layout = laid(HALTS, Data(("b1", LIMIT * A - LIMIT * B - 5)), labels={"a": 1, "b": 1}, base=2 ** 32)
        self.assertEqual(layout.cells_of("main", 1), (251,))


class Asking(Case):
    def setUp(self):
        self.layout = laid(Data(1), HALTS, Alignment(4), labels={"a": 1, "1!b@2.c": 0})

    def test_labels(self):
        self.assertEqual((self.layout("a"), self.layout("1!b@2.c")), (1, 0))
        self.assertTrue("a" in self.layout and "1!b@2.c" in self.layout)
        for wrong in ("b", "main", "", None, 0, True, (), [], {}):
            self.assertFalse(wrong in self.layout)
            self.refused(NoName, (wrong,), self.layout, wrong)

    def test_sections(self):
        for wrong in ("a", "", None, 0, True, (), [], {}):
            for call in (self.layout.spot, self.layout.form_of, self.layout.cells_of):
                self.refused(BadName, (wrong,), call, wrong, -1)

    def test_indexes(self):
        for wrong in (-1, 4, None, True, False, "0", (), []):
            for call in (self.layout.spot, self.layout.form_of, self.layout.cells_of):
                self.refused(BadNumber, (wrong,), call, "main", wrong)
        self.assertEqual(self.layout.spot("main", 3), 4)
        self.refused(BadNumber, (3,), self.layout.cells_of, "main", 3)
        for index in (0, 2, 3):
            self.refused(BadNumber, (index,), self.layout.form_of, "main", index)
        self.assertEqual(self.layout.form_of("main", 1), 0)

    def test_class_values(self):
        self.assertEqual((Layout.MOST_CHOICES, Layout.MOST_CELLS), (300, 65536))

    def test_nothing_is_kept(self):
        labels = {"a": ("main", 0)}
        layout = Layout((Section("main", Data(("b1", A))),), labels, TABLE)
        labels["a"] = ("main", 1)
        labels["b"] = ("main", 1)
        self.assertEqual((layout("a"), "b" in layout), (0, False))


class Ranges(Case):
    def test_choices(self):
        self.refused(OutOfRange, ("main", 1), laid, Data(1), Choice("load", (Linear(40000),)))
        self.refused(OutOfRange, ("main", 1), laid, Data(1), Choice("load", (A,)), labels={"a": 0}, base=32768)
        layout = laid(Data(1), Choice("load", (A,)), labels={"a": 0}, base=32767)
        self.assertEqual(layout.cells_of("main", 1), (3, 0, 255, 127))

    def test_patches(self):
        for field, cells in (("b1", 1), ("b2", 2), ("b4", 4)):
            most = 256 ** cells
            for value in (most - 1, -most // 2):
                wanted = tuple([value >> 8 * place & 255 for place in range(cells)])
                self.assertEqual(laid(Data((field, Linear(value)))).cells_of("main", 0), wanted)
            for value in (most, -most // 2 - 1):
                self.refused(OutOfRange, ("main", 1), laid, HALTS, Data(0, (field, Linear(value))))
        self.refused(OutOfRange, ("main", 0), laid, Data(("b1", A)), labels={"a": 1}, base=255)
        self.assertEqual(laid(Data(("b1", A)), labels={"a": 1}, base=254).cells_of("main", 0), (255,))

    def test_the_first_one_and_choices_ahead(self):
        bad_data, bad_choice = Data(("b1", Linear(256))), Choice("load", (Linear(40000),))
        sections = (Section("a", bad_data, bad_data), Section("b", HALTS, HALTS), Section("c", bad_data))
        self.refused(OutOfRange, ("a", 0), Layout, sections, {}, TABLE)
        self.refused(OutOfRange, ("c", 0), Layout, sections[1:], {}, TABLE)
        sections = (*sections, Section("d", HALTS, bad_choice, bad_choice), Section("e", bad_choice))
        self.refused(OutOfRange, ("d", 1), Layout, sections, {}, TABLE)

    def test_300_choices(self):
        self.assertEqual(len(list(laid(*[HALTS] * 300).parts())[0][2]), 300)
        self.refused(TooLarge, (300,), laid, *[HALTS] * 301)
        sections = (Section("a", *[HALTS] * 200), Section("b", *[HALTS] * 101))
        self.refused(TooLarge, (300,), Layout, sections, {}, TABLE)

    def test_65536_cells(self):
        self.assertEqual(laid(Gap(65536)).spot("main", 1), 65536)
        self.refused(TooLarge, (65536,), laid, Gap(65536), HALTS)
        self.refused(TooLarge, (65536,), laid, Gap(65536), Data(0))
        self.refused(TooLarge, (65536,), laid, Gap(65470), Alignment(64), Gap(65))
        self.assertEqual(laid(Gap(65533), Alignment(4)).spot("main", 2), 65536)
        sections = (Section("a", Gap(65530)), Section("b", Alignment(64), Gap(6)))
        self.assertEqual([address for _, address, _ in Layout(sections, {}, TABLE).parts()], [0, 65536])
        sections = (Section("a", Gap(65530)), Section("b", Alignment(64), Gap(7)))
        self.refused(TooLarge, (65536,), Layout, sections, {}, TABLE)

    def test_more_cells_in_a_later_pass(self):
        far = Choice("jump", (A,))
        self.assertEqual(laid(far, Gap(65531), labels={"a": 2}).spot("main", 2), 65536)
        self.refused(TooLarge, (65536,), laid, far, Gap(65532), labels={"a": 2})
        self.refused(TooLarge, (65536,), laid, Choice("load", (Linear(40000),)), Gap(65534))
        self.refused(OutOfRange, ("main", 0), laid, Choice("load", (Linear(40000),)), Gap(65532))


class Refused(Case):
    def test_sections(self):
        for wrong in ([], None, 5, Section("a"), "", {}, True):
            self.refused(BadObject, (None,), Layout, wrong, 5, TABLE, base=-1)
        for wrong in (None, 5, "a", (), Data(), Section("b", Data(1))):
            self.refused(BadObject, (2,), Layout, (Section("a"), Section("b"), wrong, None), 5, TABLE, base=-1)

    def test_labels(self):
        sections = (Section("a", Data(1), Data(2)), Section("b"))
        for label, place in (
            ("x", ("c", 0)), ("x", ("a", 3)), ("x", ("a", -1)), ("x", ("b", 1)), ("x", ("a",)), ("x", ["a", 0]), ("x", "a0"),
            ("x", ("a", True)), ("x", ("a", None)), ("x", (None, 0)), ("x", (["a"], 0)), ("x", None), ("x", ("a", 0, 0)),
            ("", ("a", 0)), ("a b", ("a", 0)), ("a" * 501, ("a", 0)), (5, ("a", 0)), (None, ("a", 0)), (("x",), ("a", 0)),
        ):
            self.refused(BadName, ({"y": ("a", 0), label: place},), Layout, sections, {"y": ("a", 0), label: place}, TABLE, base=-1)
        for wrong in (None, 5, [], (), "", True, [("x", ("a", 0))]):
            self.refused(BadName, (wrong,), Layout, sections, wrong, TABLE, base=-1)
        layout = Layout(sections, {"x" * 500: ("a", 2), "..": ("b", 0)}, TABLE)
        self.assertEqual((layout("x" * 500), layout("..")), (2, 2))

    def test_bases(self):
        wrong_section = Section("a", Choice("q"))
        for wrong in (-1, 2 ** 32 + 1, None, True, "0", (), []):
            self.refused(BadNumber, (wrong,), Layout, (wrong_section,), {}, TABLE, base=wrong)

    def test_fragments(self):
        self.refused(NoInstruction, ("q",), laid, HALTS, Choice("q", (A,)), Choice("r"))
        for operands in ((), (A, A)):
            self.refused(BadOperands, (len(operands),), laid, HALTS, Choice("jump", operands), Choice("r"))
        self.refused(BadOperands, (1,), laid, Choice("halt", (A,)))
        self.refused(NoName, ("a",), laid, Choice("load", (B + A,)), Choice("r"))
        self.refused(NoName, ("b",), laid, Choice("load", (B + A,)), Choice("r"), labels={"a": 0})
        self.refused(NoName, ("b",), laid, Data(1, ("b1", A), ("b1", B), ("b1", Linear.single("c"))), HALTS, labels={"a": 0})
        self.refused(NoName, ("a",), laid, Data(("b1", A)), *[HALTS] * 301)

    def test_sections_in_their_order(self):
        sections = (Section("a", Data(("b1", A))), Section("b", Choice("q")))
        self.refused(NoName, ("a",), Layout, sections, {}, TABLE)
        self.refused(NoInstruction, ("q",), Layout, sections[::-1], {}, TABLE)

    def test_the_order_of_limits(self):
        self.refused(TooLarge, (300,), laid, Gap(65536), *[HALTS] * 301)
        self.refused(TooLarge, (65536,), laid, Gap(65536), Choice("load", (Linear(40000),)))
        self.refused(NoInstruction, ("q",), laid, Gap(65536), *[HALTS] * 301, Choice("q"))
