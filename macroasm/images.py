"""Images: what objects are linked to, which never change."""

from macroasm.arithmetic import bounded, is_number
from macroasm.errors import NoName, NoOrigin
from macroasm.objects import forms_in


class Image:
    """Sections of cells, the values of names, and where all of it comes from."""

    def __init__(self, whole, layout):
        self._base = layout.base
        self._growths = tuple(layout.growth_rows())
        self._all_ranges = []
        self._cells = []
        # For each range the address at which it begins, and how many cells are ahead of it.
        self._starts = []
        self._many_ahead = []
        # For each label the addresses of the ranges that use it.
        self._users = {label: [] for label in whole.labels}
        sections = []
        for name in whole.sections:
            sections.append(self._section_of(name, whole, layout))
        self._sections = tuple(sections)
        self._labels = [name for name in whole.exports if name in layout]
        self._exports = whole.exports
        addresses = {label: layout(label) for label in whole.labels}
        self._values = {name: addresses[name] for name in self._labels}
        self._values.update({
            name: whole.form_of(name).unbounded(addresses) for name in self._exports if name not in addresses
        })

    @property
    def base(self):
        """The address from which the sections stand."""
        return self._base

    @property
    def sections(self):
        """A tuple of (name, address, cells), in the order of the layout."""
        return self._sections

    @property
    def exports(self):
        """The tuple of the names that are exported, ascending."""
        return self._exports

    @property
    def growths(self):
        """The tuple of (pass, section, index, old form, new form, operand, value) of all later forms."""
        return self._growths

    def __len__(self):
        return len(self._cells)

    def __contains__(self, address):
        return self._range_at(address) is not None

    def __getitem__(self, address):
        number = self._range_at(address)
        if number is None:
            raise NoOrigin(address)
        return self._cells[self._many_ahead[number] + address - self._starts[number]]

    def __iter__(self):
        raise TypeError("an image is read by its sections")

    def __eq__(self, other):
        return isinstance(other, Image) and self._sections == other._sections and self._values == other._values

    def value(self, name):
        """The value of an exported name."""
        if not isinstance(name, str) or name not in self._values:
            raise NoName(name)
        return bounded(self._values[name])

    def uses_of(self, label):
        """The ascending tuple of the addresses of the ranges that use an exported label."""
        if not isinstance(label, str) or label not in self._labels:
            raise NoName(label)
        return tuple(self._users[label])

    def origin_at(self, address):
        """The origin of a cell."""
        number = self._range_at(address)
        if number is None:
            raise NoOrigin(address)
        return self._all_ranges[number][4]

    def ranges(self):
        """Yield (section, index, address, count, origin) for the cells of each statement that has some."""
        yield from self._all_ranges

    def listing(self):
        """The text of the sections with their ranges."""
        lines = []
        begin = 0
        for name, address, cells in self._sections:
            lines.append(f"section {name} {address}")
            end = begin
            while end < len(self._all_ranges) and self._all_ranges[end][0] == name:
                lines.append(self._range_text(end))
                end += 1
            begin = end
        return "\n".join(lines)

    def _section_of(self, name, whole, layout):
        """The name, the address and the cells of a section, whose ranges are added."""
        found = []
        origins = whole.origins_of(name)
        for index, fragment in enumerate(whole[name].fragments):
            cells = layout.cells_of(name, index)
            if cells:
                self._add_range((name, index, layout.spot(name, index), len(cells), origins[index]))
                self._add_user(fragment, self._starts[-1])
            found.extend(cells)
        self._cells.extend(found)
        return name, layout.spot(name, 0), tuple(found)

    def _add_range(self, told):
        behind = self._many_ahead[-1] + self._all_ranges[-1][3] if self._all_ranges else 0
        self._all_ranges.append(told)
        self._starts.append(told[2])
        self._many_ahead.append(behind)

    def _add_user(self, fragment, address):
        unknowns = [unknown for form in forms_in(fragment) for unknown in form.unknowns]
        for label in sorted(set(unknowns)):
            self._users[label].append(address)

    def _range_at(self, address):
        """The number of the range in which the cell at an address is, None without one."""
        if not is_number(address):
            return None
        low = 0
        high = len(self._starts)
        while low < high:
            middle = (low + high) // 2
            if self._starts[middle] <= address:
                low = middle + 1
            else:
                high = middle
        number = low - 1
        if number < 0 or address >= self._starts[number] + self._all_ranges[number][3]:
            return None
        return number

    def _range_text(self, number):
        _, _, address, count, origin = self._all_ranges[number]
        begin = self._many_ahead[number]
        cells = " ".join([str(cell) for cell in self._cells[begin:begin + count]])
        return f"{address}: {cells} ; {origin}"
