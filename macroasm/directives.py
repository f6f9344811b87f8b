"""The operands of directives."""

from macroasm.errors import BadOperands
from macroasm.lines import is_free_name, unbraced


def condition(operands, reader, variables):
    """Whether the condition of an if holds."""
    _check_count(operands, 1, 1)
    return reader.value_of_text(operands[0], variables) != 0


def sameness(operands):
    """Whether the operands of an ifsame are the same."""
    _check_count(operands, 2, 2)
    return unbraced(operands[0]) == unbraced(operands[1])


def setting(operands, reader, variables):
    """The name and the value of a set."""
    _check_count(operands, 1, 1)
    name, sign, expression = operands[0].partition("=")
    # The sign `==` reaches further than `=`, so with it this is not the form of a set.
    if sign == "" or expression.startswith("=") or not is_free_name(name.strip(" ")):
        raise BadOperands(0)
    return name.strip(" "), reader.value_of_text(expression.strip(" "), variables)


def repeating(operands, reader, variables):
    """The number of the rounds of a repeat, and the name that counts them, None without one."""
    _check_count(operands, 1, 2)
    counter = operands[1] if len(operands) == 2 else None
    if counter is not None and not is_free_name(counter):
        raise BadOperands(1)
    return reader.value_of_text(operands[0], variables), counter


def _check_count(operands, least, most):
    if len(operands) < least:
        raise BadOperands(len(operands))
    if len(operands) > most:
        raise BadOperands(most)
