"""Objects: sections with fragments, names, equations, imports and exports, which never change; and joining them."""

from macroasm.errors import BadObject, Cycle, LimitTrouble, NoName, Taken, TooLarge
from macroasm.fragments import Choice, Data, Section
from macroasm.linear import Linear
from macroasm.rings import inner_first, least_ring_in

MOST_JOINED = 20
MOST_PIECES = 1000000
PRIVATE = "!"


class Object:
    """What is made of a text, or of several."""

    def __init__(self, pieces, parts, labels, equations, imports):
        self._pieces = pieces
        self._parts = {section.name: section for section, _ in parts}
        self._origins = {section.name: tuple(origins) for section, origins in parts}
        self._all_origins = [origin for _, origins in parts for origin in origins]
        self._places = {name: labels[name] for name in sorted(labels)}
        self._forms = {name: equations[name] for name in sorted(equations)}
        self._imports = tuple(sorted(imports))
        names = sorted([*labels, *equations])
        self._exports = tuple([name for name in names if PRIVATE not in name])

    @property
    def pieces(self):
        """The number of the pieces."""
        return self._pieces

    @property
    def sections(self):
        """The tuple of the names of the sections, in their order."""
        return tuple(self._parts)

    @property
    def labels(self):
        """The tuple of the labels, ascending."""
        return tuple(self._places)

    @property
    def equations(self):
        """The tuple of the equations, ascending."""
        return tuple(self._forms)

    @property
    def exports(self):
        """The tuple of the labels and equations that are exported, ascending."""
        return self._exports

    @property
    def imports(self):
        """The tuple of the imports, ascending."""
        return self._imports

    def __len__(self):
        return len(self._all_origins)

    def __contains__(self, name):
        return isinstance(name, str) and (name in self._places or name in self._forms)

    def __getitem__(self, section):
        if not isinstance(section, str) or section not in self._parts:
            raise NoName(section)
        return self._parts[section]

    def __iter__(self):
        raise TypeError("an object is read by its sections")

    def __eq__(self, other):
        return isinstance(other, Object) and self.is_like(other) and self._origins == other._origins

    def is_like(self, other):
        """Whether a value is an object with the same parts, but perhaps other origins."""
        if not isinstance(other, Object) or self._pieces != other._pieces or self._imports != other._imports:
            return False
        is_same = self._places == other._places and self._forms == other._forms
        return is_same and list(self._parts.values()) == list(other._parts.values())

    def origins_of(self, section):
        """The tuple of the origins of the fragments of a section."""
        if not isinstance(section, str) or section not in self._origins:
            raise NoName(section)
        return self._origins[section]

    def place_of(self, label):
        """The pair of a section and the number of the fragments in it that are ahead of a label."""
        if not isinstance(label, str) or label not in self._places:
            raise NoName(label)
        return self._places[label]

    def form_of(self, equation):
        """The form of an equation."""
        if not isinstance(equation, str) or equation not in self._forms:
            raise NoName(equation)
        return self._forms[equation]


def renamed_form(form, names):
    """A form with other names for those that are in a dict."""
    if form.is_plain:
        return form
    pairs = [(names.get(unknown, unknown), multiple) for unknown, multiple in form.pairs]
    return Linear(form.constant, *pairs)


def forms_in(fragment):
    """A list of the forms of a fragment."""
    if isinstance(fragment, Choice):
        return list(fragment.operands)
    if isinstance(fragment, Data):
        return [item[1] for item in fragment.contents if isinstance(item, tuple)]
    return []


def with_forms(fragment, forms):
    """A fragment with other forms, in their order."""
    if isinstance(fragment, Choice):
        return Choice(fragment.name, tuple(forms))
    items = []
    many = 0
    for item in fragment.contents:
        if isinstance(item, tuple):
            items.append((item[0], forms[many]))
            many += 1
        else:
            items.append(item)
    return Data(*items)


def joined(objects):
    """One object with all pieces of the objects in a tuple."""
    _check_objects(objects)
    _check_exports(objects)
    joining = Joining()
    for whole in objects:
        joining.add(whole)
    return joining.finished()


class Joining:
    """Objects that are joined, one behind the other."""

    def __init__(self):
        self._pieces = 0
        self._fragments = {}
        self._origins = {}
        self._places = {}
        self._forms = {}
        self._imported = {}

    def add(self, whole):
        """Add an object, whose names are all others than those so far."""
        names = _renumbered(whole, self._pieces)
        for name in whole.labels:
            section, index = whole.place_of(name)
            self._places[names[name]] = (section, index + len(self._fragments.get(section, [])))
        for name in whole.equations:
            self._forms[names[name]] = renamed_form(whole.form_of(name), names)
        for name in whole.imports:
            self._imported[name] = True
        for section in whole.sections:
            fragments = self._fragments.setdefault(section, [])
            fragments.extend([renamed(fragment, names) for fragment in whole[section].fragments])
            self._origins.setdefault(section, []).extend(whole.origins_of(section))
        self._pieces = self._pieces + whole.pieces

    def finished(self):
        """The object of all that was added."""
        equations = self._resolved_equations()
        met = {name: equations[name] for name in self._imported if name in equations}
        parts = []
        for section, fragments in self._fragments.items():
            filled = [_filled(fragment, met) for fragment in fragments]
            parts.append((Section(section, *filled), self._origins[section]))
        if self._pieces > MOST_PIECES:
            raise TooLarge(MOST_PIECES)
        imports = [name for name in self._imported if name not in equations and name not in self._places]
        return Object(self._pieces, parts, self._places, equations, imports)

    def _resolved_equations(self):
        """A dict from the equations to their forms, in which no equations are left."""
        uses = {
            name: [unknown for unknown in form.unknowns if unknown in self._forms]
            for name, form in self._forms.items()
        }
        ordered = inner_first(uses)
        if len(ordered) < len(uses):
            raise Cycle(least_ring_in(uses))
        found = {}
        refused = []
        for name in ordered:
            if all([used in found for used in uses[name]]):
                self._resolve(name, found, refused)
        if refused:
            # The least one is filled once more, so that its error is the one that is raised.
            least = min(refused)
            found[least] = self._forms[least].filled(found)
        return found

    def _resolve(self, name, found, refused):
        """Add the form of an equation to what is found, or the equation to what is refused."""
        try:
            found[name] = self._forms[name].filled(found)
        except LimitTrouble:
            refused.append(name)


def _check_objects(objects):
    if not isinstance(objects, tuple) or not 1 <= len(objects) <= MOST_JOINED:
        raise BadObject(None)
    for index, whole in enumerate(objects):
        if not isinstance(whole, Object):
            raise BadObject(index)


def _check_exports(objects):
    """Taken for the least name that two objects export."""
    told = {}
    twice = []
    for whole in objects:
        for name in whole.exports:
            if name in told:
                twice.append(name)
            told[name] = True
    if twice:
        raise Taken(min(twice))


def _renumbered(whole, ahead):
    """A dict from the names of an object to those behind a number of pieces."""
    return {name: _renumbered_name(name, ahead) for name in whole.labels + whole.equations}


def _renumbered_name(name, ahead):
    number, sign, path = name.partition(PRIVATE)
    return name if sign == "" else f"{int(number) + ahead}{PRIVATE}{path}"


def renamed(fragment, names):
    """A fragment with other names in its forms for those that are in a dict."""
    forms = forms_in(fragment)
    if all([form.is_plain for form in forms]):
        return fragment
    return with_forms(fragment, [renamed_form(form, names) for form in forms])


def _filled(fragment, met):
    """A fragment with the forms of equations in the places of their names."""
    forms = forms_in(fragment)
    if not met or all([form.is_plain for form in forms]):
        return fragment
    return with_forms(fragment, [form.filled(met) for form in forms])
