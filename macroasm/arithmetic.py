"""The values of signs and operators."""

from macroasm.errors import BadShift, DividedByZero, TooLarge
from macroasm.scanning import LARGEST

MOST_SHIFTED = 64


def is_number(value):
    """Whether a value is an integer; True and False are none."""
    return isinstance(value, int) and not isinstance(value, bool)


def is_value(value):
    """Whether a value is an integer that an expression can have."""
    return is_number(value) and -LARGEST <= value <= LARGEST


def bounded(value):
    """An integer; TooLarge if no expression can have it."""
    if not -LARGEST <= value <= LARGEST:
        raise TooLarge(LARGEST)
    return value


def signed_value(sign, one):
    """The value of a sign in front of a value."""
    if sign == "-":
        return bounded(-one)
    if sign == "~":
        return bounded(-one - 1)
    return _told(one == 0)


def joined_value(one, sign, other):
    """The value of an operator between two values."""
    action = OPERATIONS[sign]
    return bounded(action(one, other))


def _told(is_so):
    return 1 if is_so else 0


def _either(one, other):
    return _told(one != 0 or other != 0)


def _both(one, other):
    return _told(one != 0 and other != 0)


def _equal(one, other):
    return _told(one == other)


def _unequal(one, other):
    return _told(one != other)


def _below(one, other):
    return _told(one < other)


def _at_most(one, other):
    return _told(one <= other)


def _above(one, other):
    return _told(one > other)


def _at_least(one, other):
    return _told(one >= other)


def _bits_of_either(one, other):
    return one | other


def _bits_of_one(one, other):
    return one ^ other


def _bits_of_both(one, other):
    return one & other


def _check_shift(many):
    if not 0 <= many <= MOST_SHIFTED:
        raise BadShift(many)


def _shifted_up(one, many):
    _check_shift(many)
    return one << many


def _shifted_down(one, many):
    _check_shift(many)
    return one >> many


def _sum(one, other):
    return one + other


def _difference(one, other):
    return one - other


def _product(one, other):
    return one * other


def _quotient(one, other):
    if other == 0:
        raise DividedByZero()
    return one // other


def _rest(one, other):
    return one - other * _quotient(one, other)


OPERATIONS = {
    "||": _either, "&&": _both, "==": _equal, "!=": _unequal, "<": _below, "<=": _at_most, ">": _above,
    ">=": _at_least, "|": _bits_of_either, "^": _bits_of_one, "&": _bits_of_both, "<<": _shifted_up,
    ">>": _shifted_down, "+": _sum, "-": _difference, "*": _product, "/": _quotient, "mod": _rest,
}
