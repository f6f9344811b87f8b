"""Operands that fit forms, and their cells: [36], [38]."""

from helpers import LIMIT, Case
from macroasm.errors import BadNumber, BadOperands, NoInstruction
from macroasm.tables import Table

LAST = 2 ** 40
LOAD = ("load", (((1,), (("n", 0),)), ((2,), ("u1",)), ((3, 0), ("s2",))))
JUMP = ("jump", (((4,), ("r1",)), ((5,), ("r4",))))
HALT = ("halt", (((6,), ()),))
MOVE = ("move", (((7,), ("u1", ("n", 5), "r1")), ((8, 1), ("u2", "s1", "r2"))))
TABLE = Table(LOAD, JUMP, HALT, MOVE)


def one_form(field):
    """A table with one instruction, with one operand under a field."""
    return Table(("a", (((9,), (field,)),)))


class Bounds(Case):
    def test_each_field(self):
        for word, cells in (("1", 1), ("2", 2), ("4", 4)):
            half = 256 ** cells // 2
            for field, least, most in (
                ("u" + word, 0, 2 * half - 1), ("s" + word, -half, half - 1),
                ("r" + word, 1 + cells - half, cells + half),
            ):
                table = one_form(field)
                for operand, wanted in ((least, 0), (most, 0), (least - 1, None), (most + 1, None)):
                    self.assertEqual(table.fitting("a", (operand,)), wanted, (field, operand))
        for number in (0, -7, LIMIT, -LIMIT):
            self.assertEqual(one_form(("n", number)).fitting("a", (number,)), 0)
            self.assertEqual(one_form(("n", number)).fitting("a", (number // 2 + 1,)), None)

    def test_cells(self):
        for field, operand, cells in (
            ("u1", 0, (0,)), ("u1", 255, (255,)), ("u2", 0x1234, (0x34, 0x12)), ("u4", 0x12345678, (0x78, 0x56, 0x34, 0x12)),
            ("s1", -1, (255,)), ("s1", -128, (128,)), ("s1", 127, (127,)), ("s2", -2, (254, 255)), ("s4", -3, (253, 255, 255, 255)),
            ("s2", 5, (5, 0)), ("r1", 1, (255,)), ("r1", 2, (0,)), ("r2", 0, (253, 255)), ("r4", 105, (100, 0, 0, 0)),
            (("n", 7), 7, ()), (("n", -LIMIT), -LIMIT, ()),
        ):
            table = one_form(field)
            self.assertEqual(table("a", (operand,)), (9, *cells))
            self.assertEqual(table.encoded("a", 0, (operand,)), (9, *cells))

    def test_addresses(self):
        table = one_form("r1")
        for address in (0, 1000, LAST):
            behind = address + 2
            for operand, wanted in ((behind - 128, 128), (behind + 127, 127), (behind, 0), (behind - 1, 255)):
                self.assertEqual(table.fitting("a", (operand,), address=address), 0)
                self.assertEqual(table.encoded("a", 0, (operand,), address=address), (9, wanted))
                self.assertEqual(table("a", (operand,), address), (9, wanted))
            for operand in (behind - 129, behind + 128):
                self.assertIsNone(table.fitting("a", (operand,), address=address))
        self.assertEqual(table("a", (1007,), address=1000), (9, 5))
        self.assertEqual(one_form("u1")("a", (7,), 1000), (9, 7))

    def test_each_form_has_its_own_end(self):
        self.assertEqual(TABLE("jump", (129,)), (4, 127))
        self.assertEqual(TABLE("jump", (130,)), (5, 125, 0, 0, 0))
        self.assertEqual(TABLE("jump", (-126,)), (4, 128))
        self.assertEqual(TABLE("jump", (-127,)), (5, 124, 255, 255, 255))

    def test_several_operands(self):
        self.assertEqual(TABLE("move", (5, 5, 5)), (7, 5, 2))
        self.assertEqual(TABLE("move", (5, 4, 5)), (8, 1, 5, 0, 4, 254, 255))
        self.assertEqual(TABLE("halt", ()), (6,))


class Fitting(Case):
    def test_the_first_that_fits(self):
        for operand, wanted in ((0, 0), (7, 1), (-1, 2), (256, 2), (40000, None), (-32768, 2), (-32769, None)):
            self.assertEqual(TABLE.fitting("load", (operand,)), wanted)
        self.assertEqual(TABLE.fitting("halt", ()), 0)

    def test_from_a_first_one_on(self):
        self.assertEqual([TABLE.fitting("load", (0,), first=first) for first in range(7)], [0, 1, 2, None, None, None, None])
        self.assertEqual(TABLE.fitting("load", (-1,), first=1), 2)

    def test_moving(self):
        self.assertEqual(TABLE.fitting("load", (0,), moving=(0,)), 1)
        self.assertEqual(TABLE.fitting("load", (0,), moving=()), 0)
        self.assertEqual(TABLE.fitting("move", (5, 5, 5), moving=(0, 2)), 0)
        self.assertEqual(TABLE.fitting("move", (5, 5, 5), moving=(1,)), 1)
        self.assertEqual(TABLE.fitting("jump", (5,), moving=(0,)), 0)
        self.assertIsNone(one_form(("n", 5)).fitting("a", (5,), moving=(0,)))


class Refused(Case):
    def test_names(self):
        for wrong in ("q", "", None, 5, True, (), [], {}):
            self.refused(NoInstruction, (wrong,), TABLE.fitting, wrong, 5, address=-1)
            self.refused(NoInstruction, (wrong,), TABLE.encoded, wrong, 9, 5, address=-1)
            self.refused(NoInstruction, (wrong,), TABLE, wrong, 5, -1)

    def test_numbers(self):
        for wrong in (-1, 3, None, True, False, "0", (), [], LIMIT):
            self.refused(BadNumber, (wrong,), TABLE.encoded, "load", wrong, 5, address=-1)
        self.assertEqual(TABLE.encoded("load", 2, (0,)), (3, 0, 0, 0))

    def test_operands(self):
        for wrong in (None, 5, [1], (), (1, 2), "a", (True,), (None,), ("1",), (LIMIT + 1,), (-LIMIT - 1,), ((1,),), {}):
            self.refused(BadOperands, (None,), TABLE.fitting, "load", wrong, address=-1, first=9)
            self.refused(BadOperands, (None,), TABLE.encoded, "load", 0, wrong, address=-1)
            self.refused(BadOperands, (None,), TABLE, "load", wrong, -1)
        self.refused(BadOperands, (None,), TABLE.fitting, "halt", (1,))
        self.assertIsNone(TABLE.fitting("load", (LIMIT,)))

    def test_addresses(self):
        for wrong in (-1, LAST + 1, None, "0", True, (), []):
            self.refused(BadNumber, (wrong,), TABLE.fitting, "load", (0,), address=wrong, first=9)
            self.refused(BadNumber, (wrong,), TABLE.encoded, "load", 0, (1,), address=wrong)
            self.refused(BadNumber, (wrong,), TABLE, "load", (LIMIT,), wrong)

    def test_first(self):
        for wrong in (-1, 7, None, "0", True, False, (), []):
            self.refused(BadNumber, (wrong,), TABLE.fitting, "load", (0,), first=wrong)

    def test_what_does_not_fit(self):
        self.refused(BadOperands, (0,), TABLE.encoded, "load", 0, (1,))
        self.refused(BadOperands, (0,), TABLE.encoded, "load", 1, (256,))
        self.refused(BadOperands, (1,), TABLE.encoded, "move", 0, (255, 6, 900))
        self.refused(BadOperands, (2,), TABLE.encoded, "move", 0, (255, 5, 132))
        self.assertEqual(TABLE.encoded("move", 0, (255, 5, 130)), (7, 255, 127))
        self.refused(BadOperands, (None,), TABLE, "load", (40000,))
        self.refused(BadOperands, (None,), TABLE, "move", (0, 200, 0))

    def test_a_table_never_changes(self):
        rows = TABLE.instructions
        TABLE("load", (5,))
        TABLE.fitting("move", (5, 5, 5), moving=(1,))
        self.assertEqual((TABLE.instructions, TABLE), (rows, Table(*rows)))
