"""Where fragments stand once the choices have forms."""

from itertools import accumulate

from macroasm.fields import start_of, unfit_index
from macroasm.fragments import PATCHES, Alignment, Choice, Data, Gap
from macroasm.tables import form_cells, length_of


def raised(address, amount):
    """The least multiple of a power of two that is not below an address."""
    return address + (-address & amount - 1)


def data_length(data):
    """The number of the cells of data."""
    return sum([PATCHES[item[0]] if isinstance(item, tuple) else 1 for item in data.contents])


class Chooser:
    """A choice at its place, with the forms of its instruction."""

    def __init__(self, place, choice, forms):
        self.place_of_choice = place
        self._asked = [(form.constant, form.pairs) for form in choice.operands]
        self._forms = forms
        self._fields = [fields for _, fields in forms]
        self._lengths = [length_of(form) for form in forms]
        self.last_form = len(forms) - 1
        self._moving = tuple([index for index, form in enumerate(choice.operands) if not form.is_plain])

    def lengths_of_forms(self):
        """A list of the numbers of the cells of the forms."""
        return list(self._lengths)

    def has_form(self, number):
        """Whether there is a form with a number."""
        return 0 <= number < len(self._forms)

    def unknowns_asked(self):
        """A list of the labels in the operands."""
        return [unknown for _, pairs in self._asked for unknown, _ in pairs]

    def operand_values(self, labels):
        """A list of the values of the operands, however great, by the addresses of labels."""
        values = []
        for constant, pairs in self._asked:
            total = constant
            for unknown, multiple in pairs:
                total = total + multiple * labels[unknown]
            values.append(total)
        return values

    def unfit_operand(self, number, address, values):
        """The index of the first operand that does not fit a form, None without one."""
        return unfit_index(self._fields[number], values, address + self._lengths[number], self._moving)

    def start_of_operand(self, operand, number, address):
        """What is taken off an operand when it is written in a form."""
        return start_of(self._fields[number][operand], address + self._lengths[number])

    def fitting_form(self, number, address, labels):
        """The form that follows in a pass: this one, or the first later one that fits, or the last one."""
        values = self.operand_values(labels)
        while number < self.last_form:
            behind = address + self._lengths[number]
            if unfit_index(self._fields[number], values, behind, self._moving) is None:
                return number
            number += 1
        return number

    def cells(self, number, address, values):
        """The cells of a form that the operands fit."""
        return form_cells(self._forms[number], values, address + self._lengths[number])


class Ground:
    """What does not change in a layout: sections, labels, choices and the base."""

    def __init__(self, sections, places, table, base):
        self.choosers = []
        self._base = base
        self._rows = [self._row_of(number, section, table) for number, section in enumerate(sections)]
        asked = {label: True for chooser in self.choosers for label in chooser.unknowns_asked()}
        self._places = {label: places[label] for label in asked}

    def addresses(self, forms):
        """For each section the addresses of its fragments and of its end, by the forms of the choices."""
        found = []
        at = self._base
        for row in self._rows:
            found.append(row.addresses_from(at, forms))
            at = found[-1][-1]
        return found

    def label_values(self, addresses):
        """A dict from the labels that choices ask for to their addresses."""
        return {label: addresses[number][index] for label, (number, index) in self._places.items()}

    def _row_of(self, number, section, table):
        """The Row of a section; its choices are added to the choosers."""
        row = Row(section)
        for index, fragment in enumerate(section.fragments):
            if isinstance(fragment, Choice):
                chooser = Chooser((number, index), fragment, table[fragment.name])
                row.add_choice(index, len(self.choosers), chooser.lengths_of_forms())
                self.choosers.append(chooser)
        return row


class Row:
    """The lengths of the fragments of a section."""

    def __init__(self, section):
        self._alignment = section.alignment
        self._lengths = [_fixed_length(fragment) for fragment in section.fragments]
        # Alignments above 1, by their indexes: the lengths of these depend on addresses.
        self._raising = {
            index: fragment.amount for index, fragment in enumerate(section.fragments)
            if isinstance(fragment, Alignment) and fragment.amount > 1
        }
        self._choices = []

    def add_choice(self, index, number, lengths):
        """Add a choice: its index here, its number, and the lengths of its forms."""
        self._choices.append((index, number, lengths))

    def addresses_from(self, address, forms):
        """The addresses of the fragments and of the end, behind an address at which another section ends."""
        lengths = list(self._lengths)
        for index, number, own in self._choices:
            lengths[index] = own[forms[number]]
        start = raised(address, self._alignment)
        if not self._raising:
            return list(accumulate([start, *lengths]))
        found = [start]
        for index, length in enumerate(lengths):
            amount = self._raising.get(index, 1)
            found.append(raised(found[-1], amount) + length)
        return found


def _fixed_length(fragment):
    """The number of the cells of a fragment, as far as neither addresses nor forms tell it."""
    if isinstance(fragment, Data):
        return data_length(fragment)
    return fragment.amount if isinstance(fragment, Gap) else 0


class Standing:
    """The addresses of all fragments if the choices have certain forms."""

    def __init__(self, ground, forms):
        self.addresses_now = ground.addresses(forms)
        self.forms_now = forms
        self._choosers = ground.choosers
        self._labels = ground.label_values(self.addresses_now)

    def total(self):
        """The number of all cells."""
        return sum([row[-1] - row[0] for row in self.addresses_now])

    def next_form(self, number):
        """The form that a choice has behind a pass at these addresses."""
        chooser = self._choosers[number]
        if self.forms_now[number] == chooser.last_form:
            return chooser.last_form
        return chooser.fitting_form(self.forms_now[number], self.address_of(number), self._labels)

    def next_forms(self):
        """The forms of all choices behind a pass at these addresses."""
        found = list(self.forms_now)
        for number, chooser in enumerate(self._choosers):
            if found[number] < chooser.last_form:
                found[number] = chooser.fitting_form(found[number], self.address_of(number), self._labels)
        return tuple(found)

    def first_unfit(self):
        """The number of the first choice that does not fit, None without one."""
        for number in range(len(self._choosers)):
            if self.unfit_operand(number) is not None:
                return number
        return None

    def unfit_operand(self, number):
        """The index of the first operand of a choice that does not fit, None without one."""
        chooser = self._choosers[number]
        return chooser.unfit_operand(self.forms_now[number], self.address_of(number), self.values_of(number))

    def unfit_value(self, number):
        """The index and the value of the first operand of a choice that does not fit, under r less the end."""
        operand = self.unfit_operand(number)
        chooser = self._choosers[number]
        start = chooser.start_of_operand(operand, self.forms_now[number], self.address_of(number))
        return operand, self.values_of(number)[operand] - start

    def first_growing(self, order):
        """The first choice in an order that does not fit and has a later form, None without one."""
        for number in order:
            if self.next_form(number) != self.forms_now[number]:
                return number
        return None

    def address_of(self, number):
        """The address of a choice."""
        section, index = self._choosers[number].place_of_choice
        return self.addresses_now[section][index]

    def values_of(self, number):
        """The values of the operands of a choice."""
        return self._choosers[number].operand_values(self._labels)

    def choice_cells(self, number):
        """The cells of a choice that fits."""
        return self._choosers[number].cells(self.forms_now[number], self.address_of(number), self.values_of(number))
