"""The layout of sections: the addresses of their fragments and the forms of their choices."""

from macroasm.arithmetic import is_number
from macroasm.errors import BadName, BadNumber, BadObject, BadOperands, NoName, OutOfRange, TooLarge
from macroasm.fields import is_in_field, number_cells
from macroasm.fragments import PATCHES, Choice, Data, Section
from macroasm.linear import is_unknown
from macroasm.placing import Ground, Standing

LAST_BASE = 2 ** 32


class Layout:
    """Sections with the addresses of their fragments and the forms of their choices."""

    MOST_CHOICES = 300
    MOST_CELLS = 65536

    def __init__(self, sections, labels, table, *, base=0):
        _check_sections(sections)
        self._numbers = {section.name: number for number, section in enumerate(sections)}
        self._places = _places_of(labels, sections, self._numbers)
        if not is_number(base) or not 0 <= base <= LAST_BASE:
            raise BadNumber(base)
        _check_fragments(sections, labels, table)
        self._sections = sections
        self._base = base
        self._ground = Ground(sections, self._places, table, base)
        if len(self._ground.choosers) > self.MOST_CHOICES:
            raise TooLarge(self.MOST_CHOICES)
        self._choice_numbers = {
            chooser.place_of_choice: number for number, chooser in enumerate(self._ground.choosers)
        }
        self._growth_rows = []
        self._all_forms = self._forms_by_passes()
        self._standing = Standing(self._ground, self._all_forms[-1])
        self._check_ranges()

    @property
    def sections(self):
        """The tuple of the sections."""
        return self._sections

    @property
    def base(self):
        """The address from which the sections stand."""
        return self._base

    def __call__(self, label):
        if label not in self:
            raise NoName(label)
        return self._address_at(self._places[label])

    def __contains__(self, label):
        return isinstance(label, str) and label in self._places

    def spot(self, name, index):
        """The address of a fragment, or of the end of a section for the number of its fragments."""
        number = self._section_number(name)
        if not is_number(index) or not 0 <= index <= len(self._sections[number]):
            raise BadNumber(index)
        return self._address_at((number, index))

    def form_of(self, name, index):
        """The number of the form that a choice has."""
        number = self._section_number(name)
        if not isinstance(self._sections[number][index], Choice):
            raise BadNumber(index)
        return self._all_forms[-1][self._choice_numbers[number, index]]

    def cells_of(self, name, index):
        """The tuple of the cells of a fragment."""
        return self._cells_at((self._section_number(name), index))

    def growth_rows(self):
        """A list of tuples (pass, section, index, old form, new form, operand, value) for all forms that followed."""
        return list(self._growth_rows)

    def passes(self):
        """Yield the tuple of all forms at the beginning of each pass."""
        yield from self._all_forms

    def parts(self):
        """Yield the name, the address and the cells of each section."""
        for number, section in enumerate(self._sections):
            cells = []
            for index in range(len(section)):
                cells.extend(self._cells_at((number, index)))
            yield section.name, self._address_at((number, 0)), tuple(cells)

    def fits(self, forms):
        """Whether a value is a tuple with a form for each choice, in which all choices fit."""
        choosers = self._ground.choosers
        if not isinstance(forms, tuple) or len(forms) != len(choosers):
            return False
        for number, form in enumerate(forms):
            if not is_number(form) or not choosers[number].has_form(form):
                return False
        return Standing(self._ground, forms).first_unfit() is None

    def grown(self, order):
        """All forms if the choices grow one at a time, each time the first one in an order that has to."""
        many = len(self._ground.choosers)
        if not isinstance(order, tuple) or not _is_order(order, many):
            raise BadNumber(order)
        forms = [0] * many
        for number, form in self._single_growths(order):
            forms[number] = form
        return tuple(forms)

    def _single_growths(self, order):
        """Yield the number and the next form of the first choice in an order that has to grow, until none has to."""
        forms = [0] * len(self._ground.choosers)
        standing = Standing(self._ground, forms)
        number = standing.first_growing(order)
        while number is not None:
            forms[number] = standing.next_form(number)
            yield number, forms[number]
            standing = Standing(self._ground, forms)
            number = standing.first_growing(order)

    def _forms_by_passes(self):
        found = []
        forms = tuple([0] * len(self._ground.choosers))
        while not found or forms != found[-1]:
            found.append(forms)
            standing = Standing(self._ground, forms)
            if standing.total() > self.MOST_CELLS:
                raise TooLarge(self.MOST_CELLS)
            forms = standing.next_forms()
            self._note_growths(len(found), standing, forms)
        return found

    def _note_growths(self, number_of_pass, standing, forms):
        old = standing.forms_now
        for number, form in enumerate(forms):
            if form != old[number]:
                operand, value = standing.unfit_value(number)
                name, index = self._place_of_choice(number)
                self._growth_rows.append((number_of_pass, name, index, old[number], form, operand, value))

    def _place_of_choice(self, number):
        """The name of the section of a choice, and its index there."""
        section, index = self._ground.choosers[number].place_of_choice
        return self._sections[section].name, index

    def _check_ranges(self):
        """OutOfRange for the first choice that does not fit, or else the first patch."""
        number = self._standing.first_unfit()
        if number is not None:
            name, index = self._place_of_choice(number)
            raise OutOfRange(name, index)
        self._check_patches()

    def _check_patches(self):
        for number, section in enumerate(self._sections):
            for index, fragment in enumerate(section.fragments):
                if isinstance(fragment, Data) and not all(self._fitting_patches(fragment)):
                    raise OutOfRange(section.name, index)

    def _fitting_patches(self, data):
        """For each patch whether its value fits."""
        patches = [item for item in data.contents if isinstance(item, tuple)]
        return [is_in_field(self._value(form), PATCHES[field]) for field, form in patches]

    def _value(self, form):
        return form.unbounded({label: self._address_at(self._places[label]) for label in form.unknowns})

    def _section_number(self, name):
        if not isinstance(name, str) or name not in self._numbers:
            raise BadName(name)
        return self._numbers[name]

    def _address_at(self, place):
        number, index = place
        return self._standing.addresses_now[number][index]

    def _cells_at(self, place):
        number, index = place
        fragment = self._sections[number][index]
        if isinstance(fragment, Choice):
            return self._standing.choice_cells(self._choice_numbers[place])
        if isinstance(fragment, Data):
            return self._data_cells(fragment)
        return (fragment.fill,) * (self._address_at((number, index + 1)) - self._address_at(place))

    def _data_cells(self, data):
        cells = []
        for item in data.contents:
            if isinstance(item, tuple):
                cells.extend(number_cells(self._value(item[1]), PATCHES[item[0]]))
            else:
                cells.append(item)
        return tuple(cells)


class GrowingLayout(Layout):
    """A layout that is asked how its choices grow one at a time; what does not fit in the end is let in."""

    def steps_one_by_one(self):
        """Yield triples (section, index, form): each time the first choice that does not fit and has a later form."""
        order = list(range(len(self._ground.choosers)))
        for number, form in self._single_growths(order):
            name, index = self._place_of_choice(number)
            yield name, index, form

    def is_explained_by(self, rows):
        """Whether a value is a tuple of steps that are enough."""
        if not isinstance(rows, tuple):
            return False
        forms = [0] * len(self._ground.choosers)
        standing = Standing(self._ground, forms)
        for row in rows:
            number = self._number_in_step(row)
            if number is None or row[2] == forms[number] or row[2] != standing.next_form(number):
                return False
            forms[number] = row[2]
            standing = Standing(self._ground, forms)
        return standing.first_growing(list(range(len(forms)))) is None

    def _number_in_step(self, row):
        """The number of the choice of a step, None for what is no step."""
        if not isinstance(row, tuple) or len(row) != 3:
            return None
        name, index, form = row
        if not isinstance(name, str) or not is_number(index) or not is_number(form):
            return None
        return self._choice_numbers.get((self._numbers.get(name), index))

    def _check_ranges(self):
        """Nothing is refused for its range."""


def _check_sections(sections):
    if not isinstance(sections, tuple):
        raise BadObject(None)
    names = []
    for index, section in enumerate(sections):
        if not isinstance(section, Section) or section.name in names:
            raise BadObject(index)
        names.append(section.name)


def _places_of(labels, sections, numbers):
    """A dict from labels to pairs of the number of a section and the index of a fragment."""
    if not isinstance(labels, dict):
        raise BadName(labels)
    places = {}
    for label, place in labels.items():
        if not is_unknown(label) or not _is_place(place, sections, numbers):
            raise BadName(labels)
        places[label] = (numbers[place[0]], place[1])
    return places


def _is_place(place, sections, numbers):
    if not isinstance(place, tuple) or len(place) != 2:
        return False
    name, index = place
    if not isinstance(name, str) or name not in numbers or not is_number(index):
        return False
    return 0 <= index <= len(sections[numbers[name]])


def _check_fragments(sections, labels, table):
    for section in sections:
        for fragment in section.fragments:
            if isinstance(fragment, Choice):
                _check_choice(fragment, table)
                _check_labels(fragment.operands, labels)
            elif isinstance(fragment, Data):
                _check_labels([item[1] for item in fragment.contents if isinstance(item, tuple)], labels)


def _check_choice(choice, table):
    many = len(choice.operands)
    # A name that is not in the table is refused by it with NoInstruction.
    fields = table[choice.name][0][1]
    if many != len(fields):
        raise BadOperands(many)


def _check_labels(forms, labels):
    for form in forms:
        for unknown in form.unknowns:
            if unknown not in labels:
                raise NoName(unknown)


def _is_order(order, many):
    """Whether a tuple has the numbers of all choices, and nothing else."""
    for number in order:
        if not is_number(number) or not 0 <= number < many:
            return False
    return len(set(order)) == many
