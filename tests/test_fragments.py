"""Fragments and sections: [44]."""

from helpers import LIMIT, Case
from macroasm.errors import BadName, BadNumber, BadObject, BadOperands
from macroasm.fragments import Alignment, Choice, Data, Gap, Section
from macroasm.linear import Linear

A = Linear.single("a")
NO_NAMES = ("", "9", "a.b", ".a", "a@1", "a" * 41, None, 5, True, (), ["a"], {})
NO_CELLS = (-1, 256, None, True, False, "0", (), [])


class Fragments(Case):
    def test_data(self):
        items = (0, 255, ("b1", A), ("b2", Linear(5)), ("b4", A - A))
        self.assertEqual(Data(*items).contents, items)
        self.assertEqual(Data.of(items), Data(*items))
        self.assertEqual((Data().contents, Data.of(())), ((), Data()))
        for other in (Data(), Data(*items[:4]), Data(*items[::-1]), items, None):
            self.assertNotEqual(Data(*items), other)
        self.assertEqual(Data(("b1", A)), Data(("b1", Linear(0, ("a", 1)))))
        self.assertNotEqual(Data(("b1", A)), Data(("b2", A)))
        self.assertNotEqual(Data(("b1", A)), Data(("b1", -A)))

    def test_data_refuses(self):
        for wrong in (
            *NO_CELLS, ("b1",), ("b3", A), ("u1", A), ("b1", 5), ("b1", A, A), ["b1", A], (5, A), ([], A), A, "b1", LIMIT,
        ):
            self.refused(BadObject, (0,), Data, wrong)
            self.refused(BadObject, (2,), Data, 1, ("b1", A), wrong, None)
            self.refused(BadObject, (1,), Data.of, (1, wrong))
        for wrong in ([], [1], None, 5, "", {}, True):
            self.refused(BadObject, (None,), Data.of, wrong)

    def test_choice(self):
        self.assertEqual((Choice("jump").name, Choice("jump").operands), ("jump", ()))
        operands = (A, Linear(1), A, A)
        self.assertEqual(Choice("a" * 40, operands).operands, operands)
        self.assertEqual(Choice("jump", (A,)), Choice("jump", operands=(Linear(0, ("a", 1)),)))
        for other in (Choice("jump"), Choice("jump", (-A,)), Choice("go", (A,)), ("jump", (A,)), None):
            self.assertNotEqual(Choice("jump", (A,)), other)

    def test_choice_refuses(self):
        for wrong in NO_NAMES:
            self.refused(BadName, (wrong,), Choice, wrong)
            self.refused(BadName, (wrong,), Choice, wrong, 5)
        for wrong in ([], [A], None, 5, A, "", True):
            self.refused(BadOperands, (None,), Choice, "jump", wrong)
        for wrong in (None, 5, True, "a", (), ("a", 1)):
            self.refused(BadOperands, (0,), Choice, "jump", (wrong,))
            self.refused(BadOperands, (2,), Choice, "jump", (A, A, wrong, A, A))
        self.refused(BadOperands, (4,), Choice, "jump", (A, A, A, A, A))
        self.refused(BadOperands, (4,), Choice, "jump", (A, A, A, A, None))

    def test_alignment(self):
        for count in (1, 2, 4, 8, 16, 32, 64):
            self.assertEqual((Alignment(count).amount, Alignment(count).fill), (count, 0))
        self.assertEqual(Alignment(4, 255).fill, 255)
        self.assertEqual(Alignment(count=4, fill=7), Alignment(4, 7))
        for other in (Alignment(8, 7), Alignment(4), Gap(4, 7), None, 4):
            self.assertNotEqual(Alignment(4, 7), other)

    def test_gap(self):
        for count in (0, 1, 3, 65536):
            self.assertEqual((Gap(count).amount, Gap(count).fill), (count, 0))
        self.assertEqual(Gap(count=4, fill=7), Gap(4, 7))
        for other in (Gap(8, 7), Gap(4), Alignment(4, 7), None, 4):
            self.assertNotEqual(Gap(4, 7), other)

    def test_numbers_that_are_refused(self):
        for wrong in (0, 3, 65, 128, -1, -2, None, True, False, "4", (), [], LIMIT):
            self.refused(BadNumber, (wrong,), Alignment, wrong)
            self.refused(BadNumber, (wrong,), Alignment, wrong, -1)
        for wrong in (-1, 65537, None, True, False, "4", (), [], LIMIT):
            self.refused(BadNumber, (wrong,), Gap, wrong)
            self.refused(BadNumber, (wrong,), Gap, wrong, -1)
        for wrong in NO_CELLS:
            self.refused(BadNumber, (wrong,), Alignment, 4, wrong)
            self.refused(BadNumber, (wrong,), Gap, 4, wrong)


class Sections(Case):
    PARTS = (Data(1), Choice("jump", (A,)), Alignment(8), Gap(5), Alignment(4, 1))

    def test_parts(self):
        section = Section("main", *self.PARTS)
        self.assertEqual((section.name, section.fragments, section.alignment), ("main", self.PARTS, 8))
        self.assertEqual(Section.of("main", self.PARTS), section)
        self.assertEqual((Section("a").fragments, Section("a").alignment, Section("a", Data()).alignment), ((), 1, 1))
        self.assertEqual(Section("a", Alignment(1), Gap(64)).alignment, 1)
        self.assertEqual((len(section), len(Section.of("a", ()))), (5, 0))

    def test_items(self):
        section = Section("main", *self.PARTS)
        self.assertEqual([section[index] for index in range(5)], list(self.PARTS))
        for wrong in (-1, 5, None, True, False, "0", (), [], slice(0, 1)):
            self.refused(BadNumber, (wrong,), section.__getitem__, wrong)
        self.refused(BadNumber, (0,), Section("a").__getitem__, 0)
        with self.assertRaises(TypeError):
            list(section)

    def test_equal(self):
        section = Section("main", *self.PARTS)
        self.assertEqual(section, Section("main", *self.PARTS))
        for other in (Section("main"), Section("a", *self.PARTS), Section("main", *self.PARTS[::-1]), self.PARTS, None):
            self.assertNotEqual(section, other)

    def test_sum(self):
        one, other = Section("a", Data(1), Alignment(4)), Section("a", Gap(2), Alignment(16))
        self.assertEqual(one + other, Section("a", Data(1), Alignment(4), Gap(2), Alignment(16)))
        self.assertEqual((one + other).alignment, 16)
        self.assertEqual((len(one), len(other)), (2, 2))
        self.refused(BadName, ("b",), lambda: one + Section("b"))
        for wrong in (None, 5, (Data(1),)):
            with self.assertRaises(TypeError):
                one + wrong

    def test_refused(self):
        for wrong in NO_NAMES:
            self.refused(BadName, (wrong,), Section, wrong, 5)
            self.refused(BadName, (wrong,), Section.of, wrong, 5)
        for wrong in (None, 5, True, "a", (), A, [], Section("a")):
            self.refused(BadObject, (0,), Section, "a", wrong)
            self.refused(BadObject, (2,), Section, "a", Data(), Gap(1), wrong, None)
            self.refused(BadObject, (1,), Section.of, "a", (Data(), wrong))
        for wrong in ([], [Data()], None, 5, Data(), "", True):
            self.refused(BadObject, (None,), Section.of, "a", wrong)
