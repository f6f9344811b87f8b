"""Trees of expressions, which never change, and their texts."""

from macroasm.arithmetic import is_value, joined_value, signed_value
from macroasm.errors import BadName, BadNumber, BadTree, LimitTrouble, TooLarge, ValueTrouble
from macroasm.lines import is_used

LEVELS = {
    "||": 1, "&&": 2, "==": 3, "!=": 3, "<": 3, "<=": 3, ">": 3, ">=": 3, "|": 4, "^": 5, "&": 6, "<<": 7, ">>": 7,
    "+": 8, "-": 8, "*": 9, "/": 9, "mod": 9,
}
COMPARING = 3
# No operator has this level, so what has it never stands in brackets.
UNJOINED = 10
SIGNS = ("-", "~", "!")
MOST_TOKENS = 200
MOST_DEPTH = 20


class Tree:
    """An expression: a Number, a Named, a Signed or a Joined."""

    def __init__(self, shown, branches, level, used):
        text, many, depth = shown
        if many > MOST_TOKENS:
            raise TooLarge(MOST_TOKENS)
        if depth > MOST_DEPTH:
            raise TooLarge(MOST_DEPTH)
        self._text = text
        self._shown = shown
        self._branches = branches
        self._level = level
        self._used = used

    @property
    def text(self):
        """The text, with the brackets that it needs."""
        return self._text

    @property
    def used(self):
        """The different names, in the order of their first places."""
        return self._used

    def __len__(self):
        # The rules let a length be given back by len alone, and not of a range.
        return len(list(range(self._shown[1])))

    def __contains__(self, name):
        return isinstance(name, str) and name in self._used

    def __eq__(self, other):
        return isinstance(other, Tree) and self._text == other._text

    def walk(self):
        """Yield this tree and all trees in it, each in front of those in it."""
        yield self
        for branch in self._branches:
            yield from branch.walk()

    def replaced(self, trees):
        """This tree with the trees of a dict in the places of their names."""
        for name in self._used:
            if name in trees and not isinstance(trees[name], Tree):
                raise BadTree(trees[name])
        return self._with(trees)

    def folded(self):
        """This tree with a Number for each part without names that has a value from 0 on."""
        return self._fold()[0]

    def by(self, ways):
        """What the ways make of this tree."""
        raise NotImplementedError("a tree is a Number, a Named, a Signed or a Joined")

    def _with(self, trees):
        raise NotImplementedError("a tree is a Number, a Named, a Signed or a Joined")

    def _fold(self):
        """The folded tree, and the value of this one, None without one."""
        raise NotImplementedError("a tree is a Number, a Named, a Signed or a Joined")

    def _in_brackets(self):
        """The text in brackets, the number of its tokens, and its depth."""
        text, many, depth = self._shown
        return f"({text})", many + 2, depth + 1


class Number(Tree):
    """A number from 0 on."""

    def __init__(self, number):
        if not is_value(number) or number < 0:
            raise BadNumber(number)
        super().__init__((str(number), 1, 0), (), UNJOINED, ())
        self._number = number

    @property
    def number(self):
        """The number itself."""
        return self._number

    def by(self, ways):
        """What the ways make of this number."""
        return ways.of_number(self._number)

    def _with(self, trees):
        return self

    def _fold(self):
        return self, self._number


class Named(Tree):
    """A path or a local name."""

    def __init__(self, name):
        if not is_used(name) or name == "mod":
            raise BadName(name)
        super().__init__((name, 1, 0), (), UNJOINED, (name,))
        self._name = name

    @property
    def name(self):
        """The name itself."""
        return self._name

    def by(self, ways):
        """What the ways make of this name."""
        return ways.of_name(self._name)

    def _with(self, trees):
        return trees[self._name] if self._name in trees else self

    def _fold(self):
        return self, None


class Signed(Tree):
    """A sign in front of a tree."""

    def __init__(self, sign, inner):
        if not isinstance(sign, str) or sign not in SIGNS:
            raise BadTree(sign)
        if not isinstance(inner, Tree):
            raise BadTree(inner)
        text, many, depth = inner._in_brackets() if inner._level < UNJOINED else inner._shown
        super().__init__((sign + text, many + 1, depth + 1), (inner,), UNJOINED, inner._used)
        self._sign = sign
        self._inner = inner

    @property
    def sign(self):
        """The sign."""
        return self._sign

    @property
    def inner(self):
        """The tree behind the sign."""
        return self._inner

    def by(self, ways):
        """What the ways make of the sign and the tree behind it."""
        return ways.of_sign(self._sign, self._inner.by(ways))

    def _with(self, trees):
        return Signed(self._sign, self._inner._with(trees))

    def _fold(self):
        inner, one = self._inner._fold()
        value = None if one is None else _value_or_none(signed_value, (self._sign, one))
        if value is not None and value >= 0:
            return Number(value), value
        return Signed(self._sign, inner), value


class Joined(Tree):
    """An operator between two trees."""

    def __init__(self, left, sign, right):
        if not isinstance(left, Tree):
            raise BadTree(left)
        if not isinstance(sign, str) or sign not in LEVELS:
            raise BadTree(sign)
        if not isinstance(right, Tree):
            raise BadTree(right)
        level = LEVELS[sign]
        is_weak = left._level < level or left._level == level == COMPARING
        one, many, depth = left._in_brackets() if is_weak else left._shown
        other, more, deeper = right._in_brackets() if right._level <= level else right._shown
        shown = (f"{one} {sign} {other}", many + more + 1, max(depth, deeper))
        super().__init__(shown, (left, right), level, _used_by_both(left._used, right._used))
        self._left = left
        self._sign = sign
        self._right = right

    @property
    def left(self):
        """The tree in front of the operator."""
        return self._left

    @property
    def sign(self):
        """The operator."""
        return self._sign

    @property
    def right(self):
        """The tree behind the operator."""
        return self._right

    def by(self, ways):
        """What the ways make of both sides and the operator."""
        one = self._left.by(ways)
        other = self._right.by(ways)
        return ways.of_operator(one, self._sign, other)

    def _with(self, trees):
        left = self._left._with(trees)
        right = self._right._with(trees)
        return Joined(left, self._sign, right)

    def _fold(self):
        left, one = self._left._fold()
        right, other = self._right._fold()
        value = None
        if one is not None and other is not None:
            value = _value_or_none(joined_value, (one, self._sign, other))
        if value is not None and value >= 0:
            return Number(value), value
        return Joined(left, self._sign, right), value


def _used_by_both(names, others):
    """The names, and behind them those of others that are not among them."""
    if others == ():
        return names
    return names + tuple([name for name in others if name not in names])


def _value_or_none(action, given):
    try:
        return action(*given)
    except (ValueTrouble, LimitTrouble):
        return None
