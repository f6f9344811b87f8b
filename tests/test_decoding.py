"""Rows of cells that are read: [39] to [41]."""

import random

from helpers import Case
from macroasm.decoding import decoded, entries, is_least, meeting, stops, sweep
from macroasm.errors import BadNumber, NoInstruction
from macroasm.tables import Table

LAST = 2 ** 40
LOAD = ("load", (((1,), (("n", 0),)), ((2,), ("u1",)), ((3, 0), ("s2",))))
JUMP = ("jump", (((4,), ("r1",)), ((5,), ("r4",))))
HALT = ("halt", (((6,), ()),))
MOVE = ("move", (((7, 1, 1), (("n", 5), "r1", "u2")), ((7, 1, 2), ("s4", "r2", "u4"))))
TABLE = Table(LOAD, JUMP, HALT, MOVE)
WRONG_ROWS = (None, 5, [1], "ab", {}, (256,), (-1,), (1, None), (True,), (0, False), ("1",), ((1,),), (0,) * 65537)


class Decoding(Case):
    def test_each_form(self):
        for cells, wanted in (
            ((1,), ("load", 0, (0,), 1)), ((2, 255), ("load", 1, (255,), 2)), ((3, 0, 254, 255), ("load", 2, (-2,), 4)),
            ((3, 0, 0, 128), ("load", 2, (-32768,), 4)), ((3, 0, 255, 127), ("load", 2, (32767,), 4)),
            ((4, 0), ("jump", 0, (2,), 2)), ((4, 128), ("jump", 0, (-126,), 2)), ((5, 1, 0, 0, 0), ("jump", 1, (6,), 5)),
            ((6,), ("halt", 0, (), 1)), ((7, 1, 1, 3, 2, 1), ("move", 0, (5, 9, 258), 6)),
            ((7, 1, 2, 255, 255, 255, 255, 0, 0, 255, 255, 255, 255), ("move", 1, (-1, 13, 2 ** 32 - 1), 13)),
        ):
            self.assertEqual(decoded(TABLE, cells), wanted)
            self.assertEqual(decoded(TABLE, cells + (6, 6)), wanted)
            self.assertEqual(decoded(TABLE, (9, 2) + cells, 2)[::3], wanted[::3])

    def test_base(self):
        self.assertEqual(decoded(TABLE, (6, 4, 5), 1, base=100), ("jump", 0, (108,), 2))
        self.assertEqual(decoded(TABLE, (6, 4, 255), 1, base=LAST), ("jump", 0, (LAST + 2,), 2))
        self.assertEqual(decoded(TABLE, (2, 5), base=100), ("load", 1, (5,), 2))

    def test_nothing_begins(self):
        for cells in ((), (0,), (2,), (3,), (3, 1, 0, 0), (3, 0, 1), (5, 0, 0, 0), (7, 1), (7, 1, 3), (7, 1, 1, 0, 0)):
            self.refused(NoInstruction, (0,), decoded, TABLE, cells)
            self.refused(NoInstruction, (2,), decoded, TABLE, (6, 6) + cells, 2)
        self.refused(NoInstruction, (0,), decoded, Table(), (6,))

    def test_what_was_written_is_read_back(self):
        chance = random.Random(3)
        for _ in range(300):
            name, number = chance.choice([("load", 0), ("load", 1), ("load", 2), ("jump", 0), ("move", 0), ("move", 1)])
            address = chance.choice([0, 5, 1000, LAST])
            operands = {
                ("load", 0): (0,), ("load", 1): (chance.randrange(256),), ("load", 2): (chance.randrange(-32768, 32768),),
                ("jump", 0): (address + 2 + chance.randrange(-128, 128),),
                ("move", 0): (5, address + 6 + chance.randrange(-128, 128), chance.randrange(65536)),
                ("move", 1): (chance.randrange(-2 ** 31, 2 ** 31), address + 13 + chance.randrange(-9, 9), 2 ** 32 - 1),
            }[name, number]
            cells = TABLE.encoded(name, number, operands, address=address)
            self.assertEqual(decoded(TABLE, cells, base=address), (name, number, operands, len(cells)))

    def test_more_instructions_change_nothing(self):
        cells = (4, 7, 2, 6)
        self.assertEqual(list(sweep(Table(JUMP), cells)), list(sweep(TABLE, cells))[:1])


class Sweeps(Case):
    def test_sweep(self):
        self.assertEqual(list(sweep(TABLE, (2, 7, 4, 254, 1), base=10)), [
            (0, "load", 1, (7,)), (2, "jump", 0, (12,)), (4, "load", 0, (0,)),
        ])
        self.assertEqual(list(sweep(TABLE, (2, 7, 4, 254, 1))), [
            (0, "load", 1, (7,)), (2, "jump", 0, (2,)), (4, "load", 0, (0,)),
        ])
        self.assertEqual(list(sweep(TABLE, (2, 7, 4, 254, 1), 3)), [])
        self.assertEqual(list(sweep(TABLE, (2, 7, 4, 254, 1), 5)), [])
        self.assertEqual(list(sweep(TABLE, (2, 7, 0, 6), 0)), [(0, "load", 1, (7,))])
        self.assertEqual(list(sweep(TABLE, (2, 6, 6), at=1, base=5)), [(1, "halt", 0, ()), (2, "halt", 0, ())])

    def test_stops(self):
        self.assertEqual(stops(TABLE, (2, 7, 4, 254, 1)), (0, 2, 4, 5))
        self.assertEqual(stops(TABLE, (2, 7, 4, 254, 1), 1), (1,))
        self.assertEqual(stops(TABLE, (2, 7, 4, 254, 1), at=5), (5,))
        self.assertEqual(stops(TABLE, ()), (0,))
        self.assertEqual(stops(TABLE, (6, 0)), (0, 1))

    def test_meeting(self):
        cells = (2, 4, 6, 6, 0, 6)
        self.assertEqual(meeting(TABLE, cells, 0, 2), 2)
        self.assertEqual(meeting(TABLE, cells, 0, 1), 3)
        self.assertEqual(meeting(TABLE, cells, 1, 0), 3)
        self.assertEqual(meeting(TABLE, cells, 3, 3), 3)
        self.assertEqual(meeting(TABLE, cells, 6, 6), 6)
        self.assertEqual(meeting(TABLE, cells, 5, 6), 6)
        self.assertEqual(meeting(TABLE, cells, 4, 4), 4)
        for one, other in ((0, 5), (5, 0), (4, 5), (0, 6), (4, 6)):
            self.assertIsNone(meeting(TABLE, cells, one, other))

    def test_meeting_by_stops(self):
        chance = random.Random(9)
        for _ in range(100):
            cells = tuple([chance.choice([1, 2, 4, 6, 5, 0]) for _ in range(chance.randint(0, 12))])
            one, other = chance.randint(0, len(cells)), chance.randint(0, len(cells))
            common = set(stops(TABLE, cells, one)) & set(stops(TABLE, cells, other))
            self.assertEqual(meeting(TABLE, cells, one, other), min(common, default=None))
            wanted = [at for at in range(len(cells) + 1) if stops(TABLE, cells, at)[-1] == len(cells)]
            self.assertEqual(entries(TABLE, cells), tuple(wanted))

    def test_entries(self):
        self.assertEqual(entries(TABLE, (2, 7, 4, 254, 1)), (0, 2, 4, 5))
        self.assertEqual(entries(TABLE, (2, 6, 6)), (0, 1, 2, 3))
        self.assertEqual(entries(TABLE, (6, 0)), (2,))
        self.assertEqual(entries(TABLE, ()), (0,))

    def test_is_least(self):
        for cells, base, wanted in (
            ((), 0, True), ((6,), 0, True), ((6, 0), 0, False), ((2, 7), 0, True), ((2, 0), 0, False), ((1,), 0, True),
            ((3, 0, 255, 255), 0, True), ((3, 0, 255, 0), 0, False), ((4, 5, 6), 0, True), ((5, 0, 0, 0, 0), 0, False),
            ((5, 125, 0, 0, 0), 0, True), ((5, 124, 0, 0, 0), 0, False), ((6, 5, 124, 0, 0, 0), 7, False), ((2,), 0, False),
            ((6, 5, 125, 0, 0, 0), LAST, True), ((5, 124, 255, 255, 255), LAST, True), ((5, 125, 255, 255, 255), 0, False),
        ):
            self.assertEqual(is_least(TABLE, cells, base=base), wanted, cells)

    def test_is_least_at_0(self):
        near = Table(("a", (((1,), ("u1", "s1")), ((2,), ("u2", "r1")))))
        self.assertTrue(is_least(near, (2, 0, 0, 124)))
        self.assertFalse(is_least(near, (2, 0, 0, 123)))

    def test_long_rows(self):
        for cells, many in (((6,) * 65536, 65536), ((2,) * 65536, 32768), ((5,) * 65535, 13107)):
            self.assertEqual(len(list(sweep(TABLE, cells, base=LAST))), many)
            self.assertEqual(len(stops(TABLE, cells)), many + 1)
        cells = (2,) * 65536
        self.assertEqual(entries(TABLE, cells), tuple(range(0, 65537, 2)))
        self.assertIsNone(meeting(TABLE, cells, 0, 1))
        self.assertEqual(meeting(TABLE, cells, 0, 65536), 65536)
        self.assertTrue(is_least(TABLE, cells))


class Refused(Case):
    def test_rows(self):
        for wrong in WRONG_ROWS:
            self.refused(BadNumber, (wrong,), decoded, TABLE, wrong, -1, base=-1)
            self.refused(BadNumber, (wrong,), lambda: list(sweep(TABLE, wrong, -1, base=-1)))
            self.refused(BadNumber, (wrong,), stops, TABLE, wrong, -1)
            self.refused(BadNumber, (wrong,), meeting, TABLE, wrong, -1, -1)
            self.refused(BadNumber, (wrong,), entries, TABLE, wrong)
            self.refused(BadNumber, (wrong,), is_least, TABLE, wrong, base=-1)

    def test_indexes(self):
        for wrong in (-1, 3, None, True, False, "0", (), []):
            self.refused(BadNumber, (wrong,), decoded, TABLE, (6, 6), wrong, base=-1)
            self.refused(BadNumber, (wrong,), lambda: list(sweep(TABLE, (6, 6), wrong, base=-1)))
            self.refused(BadNumber, (wrong,), stops, TABLE, (6, 6), wrong)
            self.refused(BadNumber, (wrong,), meeting, TABLE, (6, 6), wrong, -2)
            self.refused(BadNumber, (wrong,), meeting, TABLE, (6, 6), 2, wrong)
        self.refused(NoInstruction, (2,), decoded, TABLE, (6, 6), 2)

    def test_bases(self):
        for wrong in (-1, LAST + 1, None, True, "0", (), []):
            self.refused(BadNumber, (wrong,), decoded, TABLE, (0, 6), 0, base=wrong)
            self.refused(BadNumber, (wrong,), lambda: list(sweep(TABLE, (6, 6), base=wrong)))
            self.refused(BadNumber, (wrong,), is_least, TABLE, (0, 6), base=wrong)

    def test_a_sweep_refuses_when_it_is_asked(self):
        waiting = sweep(TABLE, None)
        self.refused(BadNumber, (None,), next, waiting)
