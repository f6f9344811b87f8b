"""Sessions: pieces that are assembled and linked by commands."""

from macroasm.errors import (
    BadBlock, BadName, LimitTrouble, LookupTrouble, NoName, NoOrigin, StateTrouble, TextError, Trouble, ValueTrouble,
)
from macroasm.linking import assembled, link
from macroasm.objecttexts import integer_in
from macroasm.origins import is_text_name

LAST_NUMBER = 2 ** 32
# The numbers of the words of the commands; what stands behind `text NAME` is told apart.
WORDS = {"text": 2, "drop": 2, "base": 2, "undo": 1, "value": 2, "cell": 2, "origin": 2, "list": 1}
NUMBERED = ("base", "cell", "origin")
DONE = "ok"
NOTHING = "nothing"
BAD_COMMAND = "bad command"
BAD_TEXT = "bad text"
BAD_LINK = "bad link"
BAD_NAME = "bad name"
BAD_PLACE = "bad place"


class Session:
    """Pieces with names, and the base at which they are linked."""

    def __init__(self, table):
        self._table = table
        self._pieces = {}
        self._base = 0
        # The pieces and the base ahead of each command that can be taken back.
        self._earlier = []
        # The image of the pieces, None as long as they were not linked.
        self._image = None

    def execute(self, command):
        """The answer to a command; what is no command changes nothing."""
        if not isinstance(command, str):
            return BAD_COMMAND
        head, feed, text = command.partition("\n")
        words = head.split(" ")
        if len(words) != WORDS.get(words[0], 0) or "" in words or (feed != "") != (words[0] == "text"):
            return BAD_COMMAND
        if words[0] in NUMBERED and not _is_number_word(words[1]):
            return BAD_COMMAND
        if words[0] == "text":
            return self._put(words[1], text)
        if words[0] == "drop":
            return self._drop(words[1])
        if words[0] == "base":
            return self._change(dict(self._pieces), int(words[1]))
        if words[0] == "undo":
            return self._undo()
        return self._look(words)

    def run(self, commands):
        """The list of the answers to the commands in a tuple."""
        _check_commands(commands)
        return [self.execute(command) for command in commands]

    def answers_to(self, commands):
        """As run, but the session stays as it was."""
        _check_commands(commands)
        twin = Session(self._table)
        twin._pieces = self._pieces
        twin._base = self._base
        twin._earlier = list(self._earlier)
        twin._image = self._image
        return twin.run(commands)

    def piece_names(self):
        """The tuple of the names of the pieces, in their order."""
        return tuple(self._pieces)

    def _put(self, name, text):
        if not is_text_name(name):
            return BAD_NAME
        try:
            whole = assembled(text, self._table, name=name)
        except Trouble as trouble:
            source, line = trouble.origin[0]
            return f"bad line {source}:{line}"
        except BadBlock as cause:
            return f"bad line {name}:{cause.line}"
        except (TextError, LimitTrouble):
            return BAD_TEXT
        pieces = dict(self._pieces)
        pieces[name] = whole
        return self._change(pieces, self._base)

    def _drop(self, name):
        if name not in self._pieces:
            return BAD_NAME
        pieces = {other: whole for other, whole in self._pieces.items() if other != name}
        return self._change(pieces, self._base)

    def _change(self, pieces, base):
        """Go on with other pieces or another base."""
        self._earlier.append((self._pieces, self._base))
        self._set(pieces, base)
        return DONE

    def _undo(self):
        if not self._earlier:
            return NOTHING
        pieces, base = self._earlier.pop()
        self._set(pieces, base)
        return DONE

    def _set(self, pieces, base):
        self._pieces = pieces
        self._base = base
        self._image = None

    def _look(self, words):
        """The answer to a command that links the pieces."""
        try:
            if self._image is None:
                self._image = link(tuple(self._pieces.values()), self._table, base=self._base)
        except (TextError, ValueTrouble, LookupTrouble, StateTrouble, LimitTrouble):
            return BAD_LINK
        if words[0] == "list":
            return self._image.listing()
        if words[0] == "value":
            return self._value_of(words[1])
        return self._cell_of(words[0], int(words[1]))

    def _value_of(self, name):
        try:
            return str(self._image.value(name))
        except NoName:
            return BAD_NAME
        except LimitTrouble:
            return BAD_LINK

    def _cell_of(self, word, address):
        try:
            return str(self._image[address] if word == "cell" else self._image.origin_at(address))
        except NoOrigin:
            return BAD_PLACE


def _check_commands(commands):
    if not isinstance(commands, tuple):
        raise BadName(commands)


def _is_number_word(word):
    value = integer_in(word)
    return value is not None and 0 <= value <= LAST_NUMBER
