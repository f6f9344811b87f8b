"""What the tests share."""

import unittest

from macroasm.errors import Trouble
from macroasm.expanding import expanded

LIMIT = 2 ** 64


def fields_of(error):
    """The fields of an exception, in the order of its parameters."""
    return tuple(vars(error).values())


class Case(unittest.TestCase):
    """Checks for what is refused."""

    def refused(self, error, fields, call, *given, **named):
        """The call raises just this error with these fields."""
        with self.assertRaises(error) as caught:
            call(*given, **named)
        self.assertIs(type(caught.exception), error)
        self.assertEqual(fields_of(caught.exception), fields)
        for told, wanted in zip(fields_of(caught.exception), fields):
            self.assertIs(type(told), type(wanted))

    def in_trouble(self, origin, error, fields, text, **named):
        """Expanding the text raises Trouble at this origin, with this cause."""
        with self.assertRaises(Trouble) as caught:
            expanded(text, **named)
        trouble = caught.exception
        self.assertEqual((str(trouble.origin), type(trouble.cause)), (origin, error))
        self.assertEqual(fields_of(trouble.cause), fields)

    def expands(self, lines, text, **named):
        """The plain lines of the text are these."""
        self.assertEqual([line for line, _ in expanded(text, **named)], lines)
