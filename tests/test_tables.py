"""Tables and what they refuse: [37]."""

from helpers import LIMIT, Case
from macroasm.errors import BadTable, NoInstruction
from macroasm.lines import RESERVED
from macroasm.tables import Table

LOAD = ("load", (((1,), (("n", 0),)), ((2,), ("u1",)), ((3, 0), ("s2",))))
JUMP = ("jump", (((4,), ("r1",)), ((5,), ("r4",))))
HALT = ("halt", (((6,), ()),))


def form(*opcode, fields=()):
    """A form of an opcode and fields."""
    return opcode, fields


class Making(Case):
    def refuses(self, row, number, *rows):
        """Both ways refuse the rows at a row and a form."""
        self.refused(BadTable, (row, number), Table, *rows)
        self.refused(BadTable, (row, number), Table.of, rows)

    def test_both_ways(self):
        table = Table(LOAD, JUMP)
        self.assertEqual(table.instructions, (LOAD, JUMP))
        self.assertEqual(Table.of((LOAD, JUMP)), table)
        self.assertEqual((len(table), len(Table()), Table.of(()).instructions), (2, 0, ()))

    def test_no_tuple(self):
        for wrong in ([], [LOAD], None, 5, "", {}, True):
            self.refused(BadTable, (None, None), Table.of, wrong)

    def test_100_rows(self):
        rows = tuple([(f"i{number}", (form(number),)) for number in range(101)])
        self.assertEqual(len(Table(*rows[:100])), 100)
        self.refuses(None, None, *rows)
        self.refuses(None, None, 5, *rows)

    def test_rows_that_are_none(self):
        forms = (form(9),)
        for wrong in (
            None, 5, "ab", (), ("a",), ("a", forms, 1), ["a", forms], ("a", [form(9)]), ("a", ()), ("a", None),
            ("a", 5), (5, forms), (None, forms), ("9", forms), ("", forms), ("a.b", forms), (".a", forms),
            ("a@1", forms), ("a" * 41, forms), (["a"], forms), (True, forms),
        ):
            self.refuses(1, None, LOAD, wrong, 7)
        for word in RESERVED:
            self.refuses(0, None, (word, forms))
        self.refuses(2, None, LOAD, JUMP, ("load", forms))
        self.assertEqual(len(Table(("a" * 40, forms), ("Load", (form(8),)))), 2)

    def test_one_to_six_forms(self):
        six = (
            ((1,), (("n", 0), ("n", 0))), ((2,), ("u1", ("n", 0))), ((3,), ("u1", "u1")), ((4,), ("u2", "u1")),
            ((5,), ("u4", ("n", 0))), ((6,), ("u4", "u1")),
        )
        for many in range(1, 7):
            self.assertEqual(Table(("a", six[:many]))["a"], six[:many])
        self.refuses(0, None, ("a", (*six, ((7,), ("u4", "u4")))))

    def test_forms_that_are_none(self):
        for wrong in (
            None, 5, (), ((1,),), ((1,), (), ()), [(1,), ()], ([1], ()), ((1,), []), ((), ()), ((1, 2, 3, 4), ()), ((256,), ()),
            ((-1,), ()), ((True,), ()), ((False,), ()), (("1",), ()), ((1, None), ()), (1, ()), ((1,), "u1"), ((1,), ("u1",) * 5),
            ((1,), ("u3",)), ((1,), (5,)), ((1,), (["n", 0],)), ((1,), (("n", True),)), ((1,), (("n", LIMIT + 1),)),
            ((1,), ("b1",)), ((1,), (("m", 1),)), ((1,), (None,)), ((1,), ([],)),
        ):
            self.refuses(0, 0, ("a", (wrong,)), 7)
            self.refuses(1, 1, HALT, ("a", (form(9), wrong)))

    def test_forms_that_may_be(self):
        for right in (
            ((0,), ()), ((255, 255, 255), ()), ((1,), ("u1",) * 4), ((1,), (("n", LIMIT), ("n", -LIMIT), "r4", "s1")),
        ):
            self.assertEqual(Table(("a", (right,)))["a"], (right,))

    def test_equally_many_operands(self):
        self.refuses(0, 1, ("a", (((1,), ("u1",)), ((2, 2, 2), ()))))
        self.refuses(0, 2, ("a", (((1,), ("u1",)), ((2,), ("u2",)), ((3,), ("u2", "u2")))))
        self.assertEqual(len(Table(("a", (((1,), ("u1",)),)), ("b", (((2,), ()),)))), 2)

    def test_rising_lengths(self):
        self.refuses(0, 1, ("a", (((1,), ("u1",)), ((2,), ("s1",)))))
        self.refuses(0, 1, ("a", (((1, 1), ("u1",)), ((2,), ("s1",)))))
        self.refuses(0, 1, ("a", (((1, 1), (("n", 1),)), ((2,), ("s1",)))))
        self.refuses(0, 2, ("a", (form(1), form(2, 2), form(3, 3))))
        self.assertEqual(len(Table(("a", (form(1), form(2, 2), form(3, 3, 3))))["a"]), 3)

    def test_opcodes_that_meet(self):
        for one, other in (((1,), (1,)), ((1,), (1, 2)), ((1, 2), (1,)), ((1, 2, 3), (1, 2)), ((1, 2, 3), (1, 2, 3))):
            self.refuses(1, 0, ("a", ((one, ()),)), ("b", ((other, ()),)), 7)
            self.refuses(2, 1, ("a", ((one, ("u4",)),)), HALT, ("b", (((0,), ("u1",)), (other, ("u4",)))))
        self.refuses(0, 1, ("a", (form(1), form(1, 2))))
        self.refuses(0, 2, ("a", (form(1), form(2, 3), form(2, 3, 4))))
        table = Table(("a", (form(1, 2), form(1, 3, 4))), ("b", (form(2), form(1, 1, 1))))
        self.assertEqual(len(table), 2)

    def test_the_first_fault_counts(self):
        self.refuses(0, 1, ("a", (form(1), None)), None)
        self.refuses(0, None, ("9", (None,)), None)
        self.refuses(1, None, LOAD, ("load", (None,)))
        self.refuses(1, 0, LOAD, ("a", (form(1, 1), form(2))))


class Asking(Case):
    def test_forms(self):
        table = Table(LOAD, JUMP)
        self.assertEqual((table["load"], table["jump"]), (LOAD[1], JUMP[1]))
        self.assertTrue("load" in table and "jump" in table)
        for wrong in ("halt", "", 0, 1, None, True, (), [], {}, LOAD):
            self.refused(NoInstruction, (wrong,), table.__getitem__, wrong)
            self.assertFalse(wrong in table)
        with self.assertRaises(TypeError):
            list(table)

    def test_equal(self):
        self.assertEqual(Table(LOAD, JUMP), Table(LOAD, JUMP))
        for other in (Table(JUMP, LOAD), Table(LOAD), Table(), (LOAD, JUMP), None, Table(LOAD, ("jumps", JUMP[1]))):
            self.assertFalse(Table(LOAD, JUMP) == other)

    def test_either(self):
        one, other = Table(LOAD, JUMP), Table(HALT, LOAD)
        self.assertEqual((one | other).instructions, (LOAD, JUMP, HALT))
        self.assertEqual((other | one).instructions, (HALT, LOAD, JUMP))
        self.assertEqual((one | one, one | Table(), Table() | one), (one, one, one))
        self.assertEqual((one.instructions, other.instructions), ((LOAD, JUMP), (HALT, LOAD)))

    def test_either_refuses(self):
        one = Table(LOAD, JUMP)
        for other, row, number in (
            (Table(HALT, ("load", (form(9),))), 3, None),
            (Table(LOAD, ("a", (form(9), form(4, 9)))), 2, 1),
            (Table(("a", (form(3),))), 2, 0),
        ):
            self.refused(BadTable, (row, number), lambda: one | other)
        rows = [(f"i{number}", (form(number),)) for number in range(100)]
        many = Table(*rows[:60])
        self.assertEqual(len(many | Table(*rows[40:])), 100)
        self.refused(BadTable, (None, None), lambda: many | Table(*rows[60:], ("z", (form(200),))))
        for wrong in (None, (LOAD,), 5):
            with self.assertRaises(TypeError):
                one | wrong
