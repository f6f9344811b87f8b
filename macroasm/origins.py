"""Origins: the lines from which a plain line comes."""

from macroasm.errors import BadName, BadNumber, BadText, TooLarge
from macroasm.lines import is_name
from macroasm.scanning import DIGITS

MOST_PAIRS = 200
MOST_IN_TEXT_NAME = 20
LAST_LINE = 100000


def is_text_name(value):
    """Whether a value is the name of a text."""
    return is_name(value) and len(value) <= MOST_IN_TEXT_NAME


def _is_line_number(value):
    return isinstance(value, int) and not isinstance(value, bool) and 1 <= value <= LAST_LINE


def _check_pair(pair):
    if not isinstance(pair, tuple) or len(pair) != 2:
        raise BadName(pair)
    name, line = pair
    if not is_text_name(name):
        raise BadName(name)
    if not _is_line_number(line):
        raise BadNumber(line)


class Origin:
    """Pairs of the name of a text and a line, innermost first."""

    def __init__(self, *pairs):
        if not pairs:
            raise BadName(())
        if len(pairs) > MOST_PAIRS:
            raise TooLarge(MOST_PAIRS)
        for pair in pairs:
            _check_pair(pair)
        self._pairs = pairs

    @classmethod
    def of(cls, pairs):
        """The origin of the pairs in a tuple."""
        if not isinstance(pairs, tuple):
            raise BadName(pairs)
        return cls(*pairs)

    @classmethod
    def read(cls, text):
        """The origin of a text `NAME:LINE<NAME:LINE`."""
        if not isinstance(text, str):
            raise BadText(0, 0)
        pairs = []
        for index, word in enumerate(text.split("<")):
            if index == MOST_PAIRS or not _is_pair_text(word):
                raise BadText(0, index)
            name, _, digits = word.partition(":")
            pairs.append((name, int(digits)))
        return cls(*pairs)

    @classmethod
    def inside(cls, pair, outward):
        """The origin of a pair inside of others, which are known to be right."""
        origin = cls(pair)
        origin._pairs = (pair, *outward)
        return origin

    def within(self, name, line):
        """This origin with one more pair outward."""
        return Origin(*self._pairs, (name, line))

    def __getitem__(self, at):
        if not isinstance(at, int) or isinstance(at, bool) or not 0 <= at < len(self._pairs):
            raise BadNumber(at)
        return self._pairs[at]

    def __iter__(self):
        raise TypeError("an origin is read by its indexes")

    def __len__(self):
        return len(self._pairs)

    def __eq__(self, other):
        return isinstance(other, Origin) and self._pairs == other._pairs

    def __str__(self):
        return "<".join([f"{name}:{line}" for name, line in self._pairs])


def _is_pair_text(word):
    name, _, digits = word.partition(":")
    if not is_text_name(name) or digits == "" or digits[0] == "0":
        return False
    is_number = all([sign in DIGITS for sign in digits])
    return is_number and len(digits) <= len(str(LAST_LINE)) and int(digits) <= LAST_LINE
