"""Expressions that are read, and the values of their trees."""

from macroasm.arithmetic import is_value, joined_value, signed_value
from macroasm.errors import BadLine, BadNumber, BadTree, NoName, NotPlain, TooLarge
from macroasm.lines import tokens
from macroasm.trees import COMPARING, LEVELS, MOST_DEPTH, MOST_TOKENS, SIGNS, Joined, Named, Number, Signed, Tree

# What waits in an expression beside operators, which have their levels.
OPENED = 0
IN_FRONT = -1


def tree_of(text):
    """The tree of an expression."""
    found = list(tokens(text, made=True))
    if len(found) > MOST_TOKENS:
        raise TooLarge(MOST_TOKENS)
    reading = Reading()
    for sort, value, column in found:
        reading.take(sort, value, column)
    return reading.finished(len(text))


class Reading:
    """An expression that is read from the left, token by token.

    What waits for the tree behind it is kept as pairs of a level and a sign: operators with their levels, opening
    brackets, and signs in front of what comes. All of them but operators make what stands behind them deeper.
    """

    def __init__(self):
        self._trees = []
        # The expression itself waits for its end like an opening bracket.
        self._waiting = [(OPENED, "")]
        self._many_open = 0
        self._depth = 0
        self._wants_atom = True

    def take(self, sort, value, column):
        """Go on with a token; BadLine if it cannot stand here."""
        if self._wants_atom:
            self._take_front(sort, value, column)
        elif sort != "sign":
            raise BadLine(column)
        elif value in LEVELS:
            self._take_operator(value, column)
        elif value == ")" and self._many_open > 0:
            self._close()
        else:
            raise BadLine(column)

    def finished(self, length):
        """The whole tree; BadLine with the length of the text if it is not complete."""
        if self._wants_atom or self._many_open > 0:
            raise BadLine(length)
        self._join_inner()
        return self._trees[0]

    def _take_front(self, sort, value, column):
        if sort == "name" or sort == "local":
            self._take_atom(Named(value))
        elif sort == "number" or sort == "character":
            self._take_atom(Number(value))
        elif sort == "sign" and value == "(":
            self._deepen((OPENED, value))
            self._many_open += 1
        elif sort == "sign" and value in SIGNS:
            self._deepen((IN_FRONT, value))
        else:
            raise BadLine(column)

    def _take_atom(self, tree):
        """Go on with an atom, behind the signs that stand in front of it."""
        taken = tree
        while self._waiting[-1][0] == IN_FRONT:
            self._depth -= 1
            taken = Signed(self._waiting.pop()[1], taken)
        self._trees.append(taken)
        self._wants_atom = False

    def _deepen(self, pair):
        if self._depth == MOST_DEPTH:
            raise TooLarge(MOST_DEPTH)
        self._depth += 1
        self._waiting.append(pair)

    def _close(self):
        self._join_inner()
        self._waiting.pop()
        self._depth -= 1
        self._many_open -= 1
        self._take_atom(self._trees.pop())

    def _take_operator(self, sign, column):
        level = LEVELS[sign]
        while self._waiting[-1][0] >= level:
            if self._waiting[-1][0] == level == COMPARING:
                raise BadLine(column)
            self._join()
        self._waiting.append((level, sign))
        self._wants_atom = True

    def _join_inner(self):
        """Join all that stands behind the innermost bracket that is open."""
        while self._waiting[-1][0] != OPENED:
            self._join()

    def _join(self):
        right = self._trees.pop()
        left = self._trees.pop()
        self._trees.append(Joined(left, self._waiting.pop()[1], right))


class Ways:
    """What is made of numbers, names, signs and operators, for `tree.by(ways)`."""

    def of_number(self, number):
        """What is made of a number."""
        raise NotImplementedError("ways tell what they make of a number")

    def of_name(self, path):
        """What is made of a name."""
        raise NotImplementedError("ways tell what they make of a name")

    def of_sign(self, sign, one):
        """What is made of a sign and what was made of the tree behind it."""
        raise NotImplementedError("ways tell what they make of a sign")

    def of_operator(self, one, sign, other):
        """What is made of an operator and what was made of its sides."""
        raise NotImplementedError("ways tell what they make of an operator")


class PlainWays(Ways):
    """The ways that work out a value, by the values of names."""

    def __init__(self, names):
        self._names = dict(names)

    def of_number(self, number):
        """The number itself."""
        return number

    def of_name(self, path):
        """The value of a name."""
        if path not in self._names:
            raise NoName(path)
        value = self._names[path]
        if not is_value(value):
            raise BadNumber(value)
        return value

    def of_sign(self, sign, one):
        """The value of a sign in front of a value."""
        return signed_value(sign, one)

    def of_operator(self, one, sign, other):
        """The value of an operator between two values."""
        return joined_value(one, sign, other)


def value_of(tree, names):
    """The value of a tree, by the values of names."""
    _check_tree(tree)
    return tree.by(PlainWays(names))


def plain_of(tree):
    """The value of a tree without names."""
    _check_tree(tree)
    if tree.used:
        raise NotPlain(tree.used[0])
    return tree.by(PlainWays({}))


def steps_of(tree, names):
    """Yield the text and the value of each tree in a tree, as they are worked out."""
    _check_tree(tree)
    ways = PlainWays(names)
    values = []
    for part in _inner_first(tree):
        values.append(_worked_out(part, ways, values))
        yield part.text, values[-1]


def _check_tree(tree):
    if not isinstance(tree, Tree):
        raise BadTree(tree)


def _inner_first(tree):
    if isinstance(tree, Signed):
        return [*_inner_first(tree.inner), tree]
    if isinstance(tree, Joined):
        return [*_inner_first(tree.left), *_inner_first(tree.right), tree]
    return [tree]


def _worked_out(part, ways, values):
    """The value of a tree whose parts have the last of the values, which it takes away."""
    if isinstance(part, Number):
        return ways.of_number(part.number)
    if isinstance(part, Named):
        return ways.of_name(part.name)
    other = values.pop()
    if isinstance(part, Signed):
        return ways.of_sign(part.sign, other)
    return ways.of_operator(values.pop(), part.sign, other)
