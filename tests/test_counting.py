"""Whole rows and free opcodes: [42], [43]."""

import itertools

from helpers import Case
from macroasm.errors import BadNumber
from macroasm.tables import Table

LAST = 256


def free_one_by_one(table, length):
    """How many opcodes are free, counted over those that begin like one of the table, and the others."""
    opcodes = [form[0] for _, forms in table.instructions for form in forms]
    # Cells that no opcode has are alike: one stands for all of them.
    named = sorted({cell for opcode in opcodes for cell in opcode})
    total = 0
    for row in itertools.product([*named, None], repeat=length):
        if any(opcode[:length] == row[:len(opcode)] for opcode in opcodes):
            continue
        total += (LAST - len(named)) ** row.count(None)
    return total


def whole_one_by_one(table, count):
    """How many rows are whole, by going on from each form."""
    if count == 0:
        return 1
    total = 0
    for _, forms in table.instructions:
        for opcode, fields in forms:
            cells = sum([0 if isinstance(field, tuple) else int(field[1]) for field in fields])
            if len(opcode) + cells <= count:
                total += LAST ** cells * whole_one_by_one(table, count - len(opcode) - cells)
    return total


TABLES = (
    Table(), Table(("a", (((1,), ()),))), Table(("a", (((1, 2), ()),))), Table(("a", (((1, 2, 3), ()),))),
    Table(("a", (((1,), ("u1",)), ((2,), ("u2",)), ((3, 1), ("u4",)))), ("b", (((3, 2, 1), (("n", 4),)),))),
    Table(("a", (((1, 2), ()), ((1, 3, 4), ()))), ("b", (((2,), ()), ((1, 1, 1), ()))), ("c", (((1, 3, 5), ("r1",)),))),
    Table(*[(f"i{cell}", (((cell,), ()), ((cell + 100, 0), ()), ((cell + 100, 1, 1), ()))) for cell in range(100)]),
)


class Counting(Case):
    def test_free_opcodes(self):
        for table in TABLES[:-1]:
            for length in (1, 2, 3):
                self.assertEqual(table.free_opcodes(length), free_one_by_one(table, length))
        self.assertEqual([Table().free_opcodes(length) for length in (1, 2, 3)], [256, 65536, 16777216])
        self.assertEqual(TABLES[-1].free_opcodes(1), 56)
        self.assertEqual(TABLES[-1].free_opcodes(2), 65536 - 100 * 256 - 100 - 100)
        self.assertEqual(TABLES[-1].free_opcodes(3), 16777216 - 100 * 65536 - 100 * 256 - 100)

    def test_whole_rows(self):
        for table in TABLES:
            for count in range(9 if len(table) < 9 else 4):
                self.assertEqual(table.whole_rows(count), whole_one_by_one(table, count))
        self.assertEqual([Table().whole_rows(count) for count in (0, 1, 8)], [1, 0, 0])
        self.assertEqual(TABLES[1].whole_rows(8), 1)
        self.assertEqual(TABLES[4].whole_rows(3), 256 ** 2 + 1)

    def test_bounds(self):
        for table in TABLES:
            for wrong in (0, 4, -1, None, "1", True, (), []):
                self.refused(BadNumber, (wrong,), table.free_opcodes, wrong)
            for wrong in (-1, 9, None, "1", True, False, (), []):
                self.refused(BadNumber, (wrong,), table.whole_rows, wrong)
