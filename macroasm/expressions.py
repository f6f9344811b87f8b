"""Expressions that are read, and the values of their trees."""

from macroasm.arithmetic import is_value, joined_value, signed_value
from macroasm.errors import BadLine, BadNumber, BadTree, NoName, NotPlain, TooLarge
from macroasm.lines import tokens
from macroasm.trees import COMPARING, LEVELS, MOST_DEPTH, MOST_TOKENS, SIGNS, Joined, Named, Number, Signed, Tree

BRACKET = ("sign", "(")
CLOSING = ("sign", ")")


def tree_of(text):
    """The tree of an expression."""
    found = list(tokens(text, made=True))
    if len(found) > MOST_TOKENS:
        raise TooLarge(MOST_TOKENS)
    reading = Reading()
    for sort, value, column in found:
        reading.take(sort, value, column)
    return reading.finished(len(text))


class Reading:
    """An expression that is read from the left, token by token.

    What waits for the tree behind it is kept as pairs: an opening bracket, ("in front", sign) or
    ("between", operator). All of them but operators make what stands behind them deeper.
    """

    def __init__(self):
        self._trees = []
        self._waiting = []
        self._depth = 0
        self._wants_atom = True

    def take(self, sort, value, column):
        """Go on with a token; BadLine if it cannot stand here."""
        if self._wants_atom:
            self._take_front(sort, value, column)
        elif sort == "sign" and value in LEVELS:
            self._take_operator(value, column)
        elif (sort, value) == CLOSING and BRACKET in self._waiting:
            self._join_stronger(0)
            self._take_off()
            self._take_signs()
        else:
            raise BadLine(column)

    def finished(self, length):
        """The whole tree; BadLine with the length of the text if it is not complete."""
        if self._wants_atom or BRACKET in self._waiting:
            raise BadLine(length)
        self._join_stronger(0)
        return self._trees[0]

    def _take_front(self, sort, value, column):
        if sort in ("number", "character"):
            self._take_atom(Number(value))
        elif sort in ("name", "local"):
            self._take_atom(Named(value))
        elif (sort, value) == BRACKET:
            self._deepen(BRACKET)
        elif sort == "sign" and value in SIGNS:
            self._deepen(("in front", value))
        else:
            raise BadLine(column)

    def _take_atom(self, tree):
        self._trees.append(tree)
        self._wants_atom = False
        self._take_signs()

    def _deepen(self, pair):
        if self._depth == MOST_DEPTH:
            raise TooLarge(MOST_DEPTH)
        self._depth += 1
        self._waiting.append(pair)

    def _take_off(self):
        self._depth -= 1
        return self._waiting.pop()[1]

    def _take_signs(self):
        """Signs take the atom that has become complete behind them."""
        while self._waiting and self._waiting[-1][0] == "in front":
            sign = self._take_off()
            self._trees.append(Signed(sign, self._trees.pop()))

    def _take_operator(self, sign, column):
        level = LEVELS[sign]
        self._join_stronger(level)
        if level == COMPARING and self._last_level() == COMPARING:
            raise BadLine(column)
        if self._last_level() == level:
            self._join()
        self._waiting.append(("between", sign))
        self._wants_atom = True

    def _last_level(self):
        """The level of the operator that waits last, 0 if it is none."""
        if not self._waiting or self._waiting[-1][0] != "between":
            return 0
        return LEVELS[self._waiting[-1][1]]

    def _join_stronger(self, level):
        while self._last_level() > level:
            self._join()

    def _join(self):
        sign = self._waiting.pop()[1]
        right = self._trees.pop()
        left = self._trees.pop()
        self._trees.append(Joined(left, sign, right))


class Ways:
    """What is made of numbers, names, signs and operators, for `tree.by(ways)`."""

    def of_number(self, number):
        """What is made of a number."""
        raise NotImplementedError("ways tell what they make of a number")

    def of_name(self, path):
        """What is made of a name."""
        raise NotImplementedError("ways tell what they make of a name")

    def of_sign(self, sign, one):
        """What is made of a sign and what was made of the tree behind it."""
        raise NotImplementedError("ways tell what they make of a sign")

    def of_operator(self, one, sign, other):
        """What is made of an operator and what was made of its sides."""
        raise NotImplementedError("ways tell what they make of an operator")


class PlainWays(Ways):
    """The ways that work out a value, by the values of names."""

    def __init__(self, names):
        self._names = dict(names)

    def of_number(self, number):
        """The number itself."""
        return number

    def of_name(self, path):
        """The value of a name."""
        if path not in self._names:
            raise NoName(path)
        value = self._names[path]
        if not is_value(value):
            raise BadNumber(value)
        return value

    def of_sign(self, sign, one):
        """The value of a sign in front of a value."""
        return signed_value(sign, one)

    def of_operator(self, one, sign, other):
        """The value of an operator between two values."""
        return joined_value(one, sign, other)


def value_of(tree, names):
    """The value of a tree, by the values of names."""
    _check_tree(tree)
    return tree.by(PlainWays(names))


def plain_of(tree):
    """The value of a tree without names."""
    _check_tree(tree)
    if tree.used:
        raise NotPlain(tree.used[0])
    return tree.by(PlainWays({}))


def steps_of(tree, names):
    """Yield the text and the value of each tree in a tree, as they are worked out."""
    _check_tree(tree)
    ways = PlainWays(names)
    values = []
    for part in _inner_first(tree):
        values.append(_worked_out(part, ways, values))
        yield part.text, values[-1]


def _check_tree(tree):
    if not isinstance(tree, Tree):
        raise BadTree(tree)


def _inner_first(tree):
    if isinstance(tree, Signed):
        return [*_inner_first(tree.inner), tree]
    if isinstance(tree, Joined):
        return [*_inner_first(tree.left), *_inner_first(tree.right), tree]
    return [tree]


def _worked_out(part, ways, values):
    """The value of a tree whose parts have the last of the values, which it takes away."""
    if isinstance(part, Number):
        return ways.of_number(part.number)
    if isinstance(part, Named):
        return ways.of_name(part.name)
    other = values.pop()
    if isinstance(part, Signed):
        return ways.of_sign(part.sign, other)
    return ways.of_operator(values.pop(), part.sign, other)
