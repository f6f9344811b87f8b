"""What the tests of objects and images share."""

from helpers import Case, fields_of
from macroasm.assembling import object_of
from macroasm.errors import Trouble
from macroasm.fragments import Alignment, Choice, Data
from macroasm.linear import Linear
from macroasm.origins import Origin
from macroasm.tables import Table

JUMP = ("jump", (((1,), ("r1",)), ((2,), ("r4",))))
LOAD = ("load", (((3,), (("n", 0),)), ((4,), ("u1",)), ((5, 0), ("s2",))))
MOVE = ("move", (((6,), ("u1", "u1")), ((7,), ("u2", "u2"))))
HALT = ("halt", (((8,), ()),))
TABLE = Table(JUMP, LOAD, MOVE, HALT)


def lines_of(text, name="main"):
    """The pairs of the lines of a text, which are plain already."""
    return tuple([(line, Origin((name, at + 1))) for at, line in enumerate(text.split("\n"))])


def made(text, name="main"):
    """The object of plain lines."""
    return object_of(lines_of(text, name), TABLE)


def form(text):
    """The form of a short text, such as `2*a-b+3`; names may have the number of a piece."""
    total = Linear()
    for part in text.replace("-", "+-").split("+"):
        if part == "":
            continue
        sign = -1 if part.startswith("-") else 1
        many, _, name = part.strip("-").rpartition("*")
        if name.isdigit():
            total = total + sign * int(name)
        else:
            total = total + sign * int(many or "1") * Linear.single(name)
    return total


def shown(fragment):
    """A fragment in values that can be compared at a glance."""
    if isinstance(fragment, Data):
        return [item if isinstance(item, int) else (item[0], told(item[1])) for item in fragment.contents]
    if isinstance(fragment, Choice):
        return (fragment.name, *[told(operand) for operand in fragment.operands])
    return ("align" if isinstance(fragment, Alignment) else "space", fragment.amount, fragment.fill)


def told(linear):
    """The constant and the pairs of a form."""
    return (linear.constant, *linear.pairs)


class ObjectCase(Case):
    """Checks for objects."""

    def has(self, whole, sections):
        """The object has these sections, as a dict of lists of shown fragments."""
        found = {name: [shown(fragment) for fragment in whole[name].fragments] for name in whole.sections}
        self.assertEqual(list(found.items()), list(sections.items()))

    def troubled(self, origin, error, fields, text):
        """Making an object of the text raises Trouble at this line, with this cause."""
        with self.assertRaises(Trouble) as caught:
            made(text)
        trouble = caught.exception
        self.assertEqual((str(trouble.origin), type(trouble.cause)), (origin, error), text)
        self.assertEqual(fields_of(trouble.cause), fields)
        for one, wanted in zip(fields_of(trouble.cause), fields):
            self.assertIs(type(one), type(wanted))
