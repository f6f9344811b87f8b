"""Texts of objects, written and read."""

from macroasm.arithmetic import is_value
from macroasm.errors import BadObject, BadText, TooLarge
from macroasm.fields import LAST_CELL, is_cell
from macroasm.fragments import ALIGNMENTS, MOST_IN_GAP, MOST_OPERANDS, PATCHES, Alignment, Choice, Data, Gap, Section
from macroasm.linear import MOST_UNKNOWNS, Linear, is_unknown
from macroasm.lines import is_name, is_reserved, is_used
from macroasm.names import MOST_SCOPES
from macroasm.objects import MOST_PIECES, PRIVATE, Object
from macroasm.origins import Origin

MOST_SIGNS = 200000
# The digits of the greatest integer that stands in a text.
MOST_DIGITS = 20
# The words with which lines begin, in the order of these lines.
STAGES = {
    "pieces": 0, "section": 1, "data": 1, "do": 1, "align": 1, "space": 1, "label": 2, "equation": 3, "import": 4,
}
NEEDING_SECTION = ("data", "do", "align", "space", "label")


def object_text(whole):
    """The text of an object."""
    if not isinstance(whole, Object):
        raise BadObject(whole)
    lines = [f"pieces {whole.pieces}"]
    for section in whole.sections:
        lines.append(f"section {section}")
        origins = whole.origins_of(section)
        for index, fragment in enumerate(whole[section].fragments):
            lines.append(" ".join(_fragment_words(fragment, origins[index])))
    for label in whole.labels:
        section, index = whole.place_of(label)
        lines.append(f"label {label} {section} {index}")
    for equation in whole.equations:
        lines.append(f"equation {equation} {_form_text(whole.form_of(equation))}")
    lines.extend([f"import {path}" for path in whole.imports])
    return "\n".join(lines)


def _fragment_words(fragment, origin):
    if isinstance(fragment, Data):
        return ["data", str(origin), *[_item_text(item) for item in fragment.contents]]
    if isinstance(fragment, Choice):
        return ["do", str(origin), fragment.name, *[_form_text(form) for form in fragment.operands]]
    word = "align" if isinstance(fragment, Alignment) else "space"
    return [word, str(origin), str(fragment.amount), str(fragment.fill)]


def _item_text(item):
    return f"{item[0]}:{_form_text(item[1])}" if isinstance(item, tuple) else str(item)


def _form_text(form):
    parts = [str(form.constant)]
    for unknown, multiple in form.pairs:
        sign = "-" if multiple < 0 else "+"
        parts.append(f"{sign}{abs(multiple)}*{unknown}")
    return "".join(parts)


def read_object(text):
    """The object of a text."""
    if not isinstance(text, str):
        raise BadText(0, 0)
    if len(text) > MOST_SIGNS:
        raise TooLarge(MOST_SIGNS)
    reading = ObjectReading()
    for at, line in enumerate(text.split("\n")):
        reading.take(WordRow(at + 1, line.split(" ")))
    return reading.finished()


class WordRow:
    """The words of a line, which are read one behind the other."""

    def __init__(self, number, words):
        self.row_number = number
        self._words = words
        self.at = 0

    def next_word(self):
        """The next word; BadText if there is none."""
        if self.at == len(self._words):
            raise BadText(self.row_number, self.at)
        self.at += 1
        return self._words[self.at - 1]

    def has_more(self):
        """Whether a word is left."""
        return self.at < len(self._words)

    def require(self, may_stand):
        """BadText for the word that was read last if it cannot stand there."""
        if not may_stand:
            raise BadText(self.row_number, self.at - 1)

    def next_integer(self, least, most):
        """The next word as an integer with these bounds."""
        value = integer_in(self.next_word())
        self.require(value is not None and least <= value <= most)
        return value

    def next_origin(self):
        """The next word as an origin."""
        word = self.next_word()
        try:
            return Origin.read(word)
        except BadText as cause:
            raise BadText(self.row_number, self.at - 1) from cause


class ObjectReading:
    """An object that is read line by line."""

    def __init__(self):
        self._stage = 0
        self._pieces = 0
        # The fragments and the origins of the sections.
        self._fragments = {}
        self._origins = {}
        self._section = None
        self._labels = {}
        self._equations = {}
        self._imports = {}
        # The name that was told last by a line of the same kind.
        self._last_name = ""
        # The forms with their rows and words, whose names are looked at last.
        self._asked = []

    def take(self, words):
        """Go on with a line."""
        word = words.next_word()
        words.require(self._may_begin(word, words.row_number))
        if STAGES[word] > self._stage:
            self._last_name = ""
        self._stage = STAGES[word]
        if word == "pieces":
            self._pieces = words.next_integer(1, MOST_PIECES)
        elif word == "section":
            self._take_section(words)
        elif word == "label":
            self._take_label(words)
        elif word == "equation":
            self._take_equation(words)
        elif word == "import":
            self._take_import(words)
        else:
            self._take_fragment(word, words)
        if words.has_more():
            words.next_word()
            words.require(False)

    def finished(self):
        """The object of all lines that were taken."""
        for row, word, form in self._asked:
            for unknown in form.unknowns:
                if unknown not in self._labels and unknown not in self._imports:
                    raise BadText(row, word)
        parts = []
        for name, fragments in self._fragments.items():
            parts.append((Section(name, *fragments), self._origins[name]))
        return Object(self._pieces, parts, self._labels, self._equations, list(self._imports))

    def _may_begin(self, word, row):
        if row == 1:
            return word == "pieces"
        if word == "pieces" or STAGES.get(word, -1) < self._stage:
            return False
        return self._section is not None or word not in NEEDING_SECTION

    def _take_section(self, words):
        name = words.next_word()
        words.require(is_name(name) and name not in self._fragments)
        self._section = name
        self._fragments[name] = []
        self._origins[name] = []

    def _take_fragment(self, word, words):
        origin = words.next_origin()
        if word == "data":
            fragment = self._read_data(words)
        elif word == "do":
            fragment = self._read_choice(words)
        elif word == "align":
            count = words.next_integer(1, ALIGNMENTS[-1])
            words.require(count in ALIGNMENTS)
            fragment = Alignment(count, words.next_integer(0, LAST_CELL))
        else:
            count = words.next_integer(0, MOST_IN_GAP)
            fragment = Gap(count, words.next_integer(0, LAST_CELL))
        self._fragments[self._section].append(fragment)
        self._origins[self._section].append(origin)

    def _read_data(self, words):
        items = []
        while words.has_more():
            field, sign, rest = words.next_word().partition(":")
            if sign == "":
                value = integer_in(field)
                words.require(is_cell(value))
                items.append(value)
            else:
                words.require(field in PATCHES)
                items.append((field, self._form_of_word(rest, words)))
        return Data(*items)

    def _read_choice(self, words):
        name = words.next_word()
        words.require(is_name(name))
        operands = []
        while words.has_more():
            word = words.next_word()
            words.require(len(operands) < MOST_OPERANDS)
            operands.append(self._form_of_word(word, words))
        return Choice(name, tuple(operands))

    def _form_of_word(self, text, words):
        """The form of the word that was read last, or of the end of it."""
        form = form_in(text)
        words.require(form is not None)
        self._asked.append((words.row_number, words.at - 1, form))
        return form

    def _take_label(self, words):
        name = self._next_name(words)
        words.require(is_label_name(name, self._pieces))
        section = words.next_word()
        words.require(section in self._fragments)
        self._labels[name] = (section, words.next_integer(0, len(self._fragments[section])))

    def _take_equation(self, words):
        name = self._next_name(words)
        words.require(is_label_name(name, self._pieces))
        self._equations[name] = self._form_of_word(words.next_word(), words)

    def _take_import(self, words):
        name = self._next_name(words)
        words.require(is_path_outside(name))
        self._imports[name] = True

    def _next_name(self, words):
        """The next word, which is behind the names of its kind and is not told by the kinds ahead."""
        name = words.next_word()
        words.require(name > self._last_name and name not in self._labels and name not in self._equations)
        self._last_name = name
        return name


def integer_in(text):
    """The integer that a text is without needless zeros, None if it is none."""
    digits = text[1:] if text.startswith("-") else text
    if not digits.isascii() or not digits.isdigit() or len(digits) > MOST_DIGITS:
        return None
    return None if digits[0] == "0" and text != "0" else int(text)


def form_in(text):
    """The form that a text is, None if it is none."""
    # With a plus in front of each further minus the parts are what stands between pluses.
    first, *others = (text[:1] + text[1:].replace("-", "+-")).split("+")
    constant = integer_in(first)
    if not is_value(constant) or len(others) > MOST_UNKNOWNS:
        return None
    pairs = []
    for part in others:
        digits, _, unknown = part.partition("*")
        multiple = integer_in(digits)
        if not is_value(multiple) or multiple == 0 or not is_unknown(unknown):
            return None
        if pairs and unknown <= pairs[-1][0]:
            return None
        pairs.append((unknown, multiple))
    return Linear(constant, *pairs)


def is_path_outside(text):
    """Whether a text may be the name of an export or an import: a path without made or reserved names."""
    return is_used(text) and "@" not in text and _has_free_parts(text)


def is_label_name(text, pieces):
    """Whether a text may be the name of a label or an equation of an object with so many pieces."""
    digits, sign, path = text.partition(PRIVATE)
    if sign == "":
        return is_path_outside(text)
    number = integer_in(digits)
    return number is not None and 1 <= number <= pieces and _is_full_name(path)


def _is_full_name(path):
    """Whether a path is the full name of a label: scopes, a name, and perhaps that of a local label."""
    parts = path.split(".")
    if len(parts) > MOST_SCOPES + 2 or not _has_free_parts(path):
        return False
    # With all scopes, the label and the local one are told apart, and neither is a made name.
    is_local = len(parts) == MOST_SCOPES + 2
    return not is_local or "@" not in parts[-1] and "@" not in parts[-2]


def _has_free_parts(path):
    return all([is_used(part) and not is_reserved(part) for part in path.split(".")])
