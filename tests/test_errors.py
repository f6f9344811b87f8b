"""The exceptions, their families and their fields."""

import unittest

from macroasm import errors
from macroasm.errors import Trouble

FAMILIES = {
    "TextError": ValueError, "ValueTrouble": ArithmeticError, "LookupTrouble": LookupError,
    "StateTrouble": RuntimeError, "LimitTrouble": OverflowError,
}
MEMBERS = {
    "TextError": {
        "BadLine": ("column",), "BadName": ("given",), "BadOperands": ("index",), "BadBlock": ("line",),
        "BadCall": ("given",), "BadText": ("row", "word"), "BadTable": ("row", "form"), "BadNumber": ("given",),
        "BadObject": ("given",), "BadTree": ("given",),
    },
    "ValueTrouble": {"NotPlain": ("path",), "DividedByZero": (), "BadShift": ("given",)},
    "LookupTrouble": {"NoName": ("path",), "NoInstruction": ("given",), "NoOrigin": ("address",)},
    "StateTrouble": {
        "Ring": ("names",), "Cycle": ("names",), "Taken": ("path",), "Unresolved": ("names",),
        "OutOfRange": ("section", "index"), "NothingLeft": (),
    },
    "LimitTrouble": {"TooLarge": ("limit",)},
}


def members():
    """Triples of a family, the name of a class and its fields."""
    return [(family, name, fields) for family, told in MEMBERS.items() for name, fields in told.items()]


class Families(unittest.TestCase):
    def test_each_family_has_its_base(self):
        for name, base in FAMILIES.items():
            self.assertEqual(getattr(errors, name).__bases__, (base,))

    def test_each_class_is_of_its_own_family_alone(self):
        for family, name, _ in members():
            for other in FAMILIES:
                is_inside = issubclass(getattr(errors, name), getattr(errors, other))
                self.assertEqual(is_inside, other == family, (name, other))

    def test_each_class_stands_directly_below_its_family(self):
        for family, name, _ in members():
            self.assertEqual(getattr(errors, name).__bases__, (getattr(errors, family),))

    def test_trouble_is_of_no_family(self):
        self.assertEqual(Trouble.__bases__, (Exception,))
        for family in FAMILIES:
            self.assertFalse(issubclass(Trouble, getattr(errors, family)))


class Fields(unittest.TestCase):
    def test_fields_by_position(self):
        for _, name, fields in members():
            error = getattr(errors, name)(*range(len(fields)))
            self.assertEqual([getattr(error, field) for field in fields], list(range(len(fields))), name)

    def test_fields_by_name(self):
        for _, name, fields in members():
            given = {field: at for at, field in enumerate(fields)}
            error = getattr(errors, name)(**given)
            self.assertEqual({field: getattr(error, field) for field in fields}, given, name)

    def test_fields_of_trouble(self):
        cause = errors.BadLine(3)
        for trouble in (Trouble("o", cause), Trouble(origin="o", cause=cause)):
            self.assertEqual(trouble.origin, "o")
            self.assertIs(trouble.cause, cause)

    def test_other_numbers_of_fields_are_refused(self):
        for _, name, fields in members():
            for many in (len(fields) - 1, len(fields) + 1):
                if fields:
                    with self.assertRaises(TypeError):
                        getattr(errors, name)(*range(many))
