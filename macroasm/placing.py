"""Where fragments stand once the choices have forms."""

from macroasm.fields import unfit_index
from macroasm.fragments import PATCHES, Alignment, Choice, Data
from macroasm.tables import form_cells, length_of

# What is done to an address by a fragment: a number is added, it is raised to a multiple, a choice is added.
ADDED = 0
RAISED = 1
CHOSEN = 2


def raised(address, amount):
    """The least multiple of a power of two that is not below an address."""
    return address + (-address & amount - 1)


def data_length(data):
    """The number of the cells of data."""
    return sum([PATCHES[item[0]] if isinstance(item, tuple) else 1 for item in data.contents])


class Chooser:
    """A choice at its place, with the forms of its instruction."""

    def __init__(self, place, choice, forms):
        self.place_of_choice = place
        self._asked = choice.operands
        self._forms = forms
        self._lengths = [length_of(form) for form in forms]
        self._moving = tuple([index for index, form in enumerate(choice.operands) if not form.is_plain])

    def length(self, number):
        """The number of the cells of a form."""
        return self._lengths[number]

    def has_form(self, number):
        """Whether there is a form with a number."""
        return 0 <= number < len(self._forms)

    def unknowns_asked(self):
        """A list of the labels in the operands."""
        return [unknown for form in self._asked for unknown in form.unknowns]

    def operand_values(self, labels):
        """The values of the operands, however great, by the addresses of labels."""
        return tuple([form.unbounded(labels) for form in self._asked])

    def unfit_operand(self, number, address, values):
        """The index of the first operand that does not fit a form, None without one."""
        return unfit_index(self._forms[number][1], values, address + self._lengths[number], self._moving)

    def next_form(self, number, address, values):
        """The form that follows in a pass: this one, or the first later one that fits, or the last one."""
        last = len(self._forms) - 1
        while number < last and self.unfit_operand(number, address, values) is not None:
            number += 1
        return number

    def cells(self, number, address, values):
        """The cells of a form that the operands fit."""
        return form_cells(self._forms[number], values, address + self._lengths[number])


class Ground:
    """What does not change in a layout: sections, labels, choices and the base."""

    def __init__(self, sections, places, table, base):
        self.choosers = []
        self._base = base
        self._alignments = [section.alignment for section in sections]
        self._rows = [self._actions(number, section, table) for number, section in enumerate(sections)]
        asked = {label: True for chooser in self.choosers for label in chooser.unknowns_asked()}
        self._places = {label: places[label] for label in asked}

    def addresses(self, forms):
        """For each section the addresses of its fragments and of its end, by the forms of the choices."""
        found = []
        at = self._base
        for number, row in enumerate(self._rows):
            at = raised(at, self._alignments[number])
            found.append(self._row_from(row, at, forms))
            at = found[-1][-1]
        return found

    def label_values(self, addresses):
        """A dict from the labels that choices ask for to their addresses."""
        return {label: addresses[number][index] for label, (number, index) in self._places.items()}

    def _actions(self, number, section, table):
        """What the fragments of a section do to an address; its choices are added to the choosers."""
        actions = []
        for index, fragment in enumerate(section.fragments):
            if isinstance(fragment, Choice):
                actions.append((CHOSEN, len(self.choosers)))
                self.choosers.append(Chooser((number, index), fragment, table[fragment.name]))
            elif isinstance(fragment, Alignment):
                actions.append((RAISED, fragment.amount))
            elif isinstance(fragment, Data):
                actions.append((ADDED, data_length(fragment)))
            else:
                actions.append((ADDED, fragment.amount))
        return actions

    def _row_from(self, row, start, forms):
        found = [start]
        at = start
        for action, amount in row:
            if action == ADDED:
                at = at + amount
            elif action == RAISED:
                at = raised(at, amount)
            else:
                at = at + self.choosers[amount].length(forms[amount])
            found.append(at)
        return found


class Standing:
    """The addresses of all fragments if the choices have certain forms."""

    def __init__(self, ground, forms):
        self.addresses_now = ground.addresses(forms)
        self._choosers = ground.choosers
        self._forms = forms
        self._labels = ground.label_values(self.addresses_now)

    def total(self):
        """The number of all cells."""
        return sum([row[-1] - row[0] for row in self.addresses_now])

    def next_form(self, number):
        """The form that a choice has behind a pass at these addresses."""
        chooser = self._choosers[number]
        return chooser.next_form(self._forms[number], self.address_of(number), self.values_of(number))

    def next_forms(self):
        """The forms of all choices behind a pass at these addresses."""
        return tuple([self.next_form(number) for number in range(len(self._choosers))])

    def first_unfit(self):
        """The number of the first choice that does not fit, None without one."""
        for number in range(len(self._choosers)):
            if self.unfit_operand(number) is not None:
                return number
        return None

    def unfit_operand(self, number):
        """The index of the first operand of a choice that does not fit, None without one."""
        chooser = self._choosers[number]
        return chooser.unfit_operand(self._forms[number], self.address_of(number), self.values_of(number))

    def first_growing(self, order):
        """The first choice in an order that does not fit and has a later form, None without one."""
        for number in order:
            if self.next_form(number) != self._forms[number]:
                return number
        return None

    def address_of(self, number):
        """The address of a choice."""
        section, index = self._choosers[number].place_of_choice
        return self.addresses_now[section][index]

    def values_of(self, number):
        """The values of the operands of a choice."""
        return self._choosers[number].operand_values(self._labels)

    def choice_cells(self, number):
        """The cells of a choice that fits."""
        return self._choosers[number].cells(self._forms[number], self.address_of(number), self.values_of(number))
