"""Linear forms, which never change, and the forms of trees."""

from macroasm.arithmetic import bounded, is_number, joined_value, signed_value
from macroasm.errors import BadName, BadNumber, BadObject, BadTree, NoName, NotPlain, TooLarge
from macroasm.expressions import Ways
from macroasm.trees import Tree

MOST_UNKNOWNS = 16
MOST_IN_UNKNOWN = 500


def is_unknown(value):
    """Whether a value is the name of an unknown."""
    if not isinstance(value, str) or not 1 <= len(value) <= MOST_IN_UNKNOWN or not value.isascii():
        return False
    # Where letters stand for the signs, all that is left has to be letters and digits.
    letters = value.replace("_", "a").replace(".", "a").replace("@", "a").replace("!", "a")
    return letters.isalnum()


class Linear:
    """An integer and multiples of unknowns."""

    def __init__(self, constant=0, *pairs):
        if not is_number(constant):
            raise BadNumber(constant)
        for pair in pairs:
            if not _is_pair(pair):
                raise BadObject(pair)
        self._constant = bounded(constant)
        self._pairs = _bounded_pairs(_summed(pairs)) if pairs else ()

    @classmethod
    def of(cls, constant, pairs):
        """The form of an integer and the pairs in a tuple."""
        if not is_number(constant):
            raise BadNumber(constant)
        if not isinstance(pairs, tuple):
            raise BadObject(pairs)
        return cls(constant, *pairs)

    @classmethod
    def single(cls, unknown):
        """The form that is one unknown."""
        if not is_unknown(unknown):
            raise BadName(unknown)
        return _form_of(0, {unknown: 1})

    @property
    def constant(self):
        """The integer."""
        return self._constant

    @property
    def pairs(self):
        """The pairs of an unknown and its multiple, ascending."""
        return self._pairs

    @property
    def unknowns(self):
        """The unknowns, ascending."""
        return tuple([unknown for unknown, _ in self._pairs])

    @property
    def is_plain(self):
        """Whether it has no unknowns."""
        return self._pairs == ()

    def __len__(self):
        return len(self._pairs)

    def __contains__(self, unknown):
        return isinstance(unknown, str) and unknown in self.unknowns

    def __getitem__(self, unknown):
        return dict(self._pairs).get(unknown, 0) if isinstance(unknown, str) else 0

    def __iter__(self):
        raise TypeError("a linear form is read by its pairs")

    def __eq__(self, other):
        return isinstance(other, Linear) and self._constant == other._constant and self._pairs == other._pairs

    def __neg__(self):
        return _times(self, -1)

    def __add__(self, other):
        if not _is_side(other):
            return NotImplemented
        return _sum(self, other, 1)

    def __radd__(self, other):
        if not _is_side(other):
            return NotImplemented
        return _sum(other, self, 1)

    def __sub__(self, other):
        if not _is_side(other):
            return NotImplemented
        return _sum(self, other, -1)

    def __rsub__(self, other):
        if not _is_side(other):
            return NotImplemented
        return _sum(other, self, -1)

    def __mul__(self, other):
        if not _is_side(other):
            return NotImplemented
        return _product(self, other)

    def __rmul__(self, other):
        if not _is_side(other):
            return NotImplemented
        return _product(other, self)

    def __call__(self, values):
        for unknown, _ in self._pairs:
            if unknown not in values:
                raise NoName(unknown)
        return bounded(self.unbounded(values))

    def unbounded(self, values):
        """The value by the values of all unknowns, however great it is."""
        total = self._constant
        for unknown, multiple in self._pairs:
            total = total + multiple * values[unknown]
        return total

    def filled(self, forms):
        """This form with the forms of a dict in the places of their unknowns."""
        total = self._constant
        found = []
        for unknown, multiple in self._pairs:
            if unknown in forms:
                form = forms[unknown]
                total = total + multiple * form.constant
                found.extend([(name, multiple * number) for name, number in form.pairs])
            else:
                found.append((unknown, multiple))
        return _form_of(total, _summed(found))


class LinearWays(Ways):
    """The ways that work out a form, by the forms of names."""

    def __init__(self, forms):
        self._forms = forms

    def of_number(self, number):
        """The plain form of a number."""
        return Linear(number)

    def of_name(self, path):
        """The form of a name."""
        return self._forms[path]

    def of_sign(self, sign, one):
        """The form of a sign in front of a form."""
        if sign == "-":
            return -one
        return Linear(signed_value(sign, _plain_value(one)))

    def of_operator(self, one, sign, other):
        """The form of an operator between two forms."""
        if sign == "+":
            return one + other
        if sign == "-":
            return one - other
        if sign == "*":
            return one * other
        left = _plain_value(one)
        return Linear(joined_value(left, sign, _plain_value(other)))


def linear_of(tree, forms):
    """The form of a tree, by the forms of names."""
    if not isinstance(tree, Tree):
        raise BadTree(tree)
    for name in tree.used:
        if name not in forms:
            raise NoName(name)
    return tree.by(LinearWays(forms))


def _is_pair(value):
    return isinstance(value, tuple) and len(value) == 2 and is_unknown(value[0]) and is_number(value[1])


def _is_side(value):
    return isinstance(value, Linear) or is_number(value)


def _form_of(constant, sums):
    """The form of a constant and a dict from unknowns, which are known to be right, to their multiples."""
    form = Linear()
    form._constant = bounded(constant)
    form._pairs = _bounded_pairs(sums)
    return form


def _moved(constant, pairs):
    """The form of a constant and the pairs of another form."""
    form = Linear()
    form._constant = bounded(constant)
    form._pairs = pairs
    return form


def _summed(pairs):
    """A dict from the unknowns of pairs to the sums of their multiples."""
    sums = {}
    for unknown, multiple in pairs:
        sums[unknown] = sums.get(unknown, 0) + multiple
    return sums


def _bounded_pairs(sums):
    """The pairs of the sums that are not 0, ascending."""
    pairs = tuple([(unknown, bounded(sums[unknown])) for unknown in sorted(sums) if sums[unknown] != 0])
    if len(pairs) > MOST_UNKNOWNS:
        raise TooLarge(MOST_UNKNOWNS)
    return pairs


def _constant_of(side):
    """The constant of a form or an integer."""
    return side.constant if isinstance(side, Linear) else side


def _pairs_of(side):
    """The pairs of a form or an integer."""
    return side.pairs if isinstance(side, Linear) else ()


def _times(side, number):
    pairs = {unknown: multiple * number for unknown, multiple in _pairs_of(side)}
    return _form_of(_constant_of(side) * number, pairs)


def _sum(one, other, number):
    """The sum of one side and a number of times the other one."""
    constant = _constant_of(one) + number * _constant_of(other)
    added = _pairs_of(other)
    if added == ():
        return _moved(constant, _pairs_of(one))
    sums = dict(_pairs_of(one))
    for unknown, multiple in added:
        sums[unknown] = sums.get(unknown, 0) + number * multiple
    return _form_of(constant, sums)


def _product(one, other):
    if _pairs_of(other) == ():
        return _times(one, _constant_of(other))
    if _pairs_of(one) == ():
        return _times(other, _constant_of(one))
    raise NotPlain(_pairs_of(one)[0][0])


def _plain_value(form):
    if not form.is_plain:
        raise NotPlain(form.unknowns[0])
    return form.constant
