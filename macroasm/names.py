"""Scopes, names, and the equations that are resolved by them."""

from macroasm.errors import (
    BadName, BadTree, Cycle, LimitTrouble, NoName, NothingLeft, Taken, TooLarge, ValueTrouble,
)
from macroasm.lines import is_reserved, is_used
from macroasm.linear import Linear, linear_of
from macroasm.rings import inner_first, least_ring_in
from macroasm.trees import Tree

MOST_SCOPES = 8
MOST_EQUATIONS = 300


class Names:
    """The scopes of a program, its labels, equations and imports."""

    def __init__(self):
        self._scopes = []
        # The last labels of the open scopes, that of the root first.
        self._lasts = [None]
        # The equations have their trees and places, all other full names None.
        self._known = {}
        self._many_equations = 0

    @property
    def place(self):
        """The path of the innermost open scope, and its last label, None without one."""
        return ".".join(self._scopes), self._lasts[-1]

    def open_scope(self, name):
        """Open a scope in the innermost open one."""
        _check_single(name)
        if len(self._scopes) == MOST_SCOPES:
            raise TooLarge(MOST_SCOPES)
        self._scopes.append(name)
        self._lasts.append(None)

    def close_scope(self):
        """Close the innermost open scope."""
        if not self._scopes:
            raise NothingLeft()
        self._scopes.pop()
        self._lasts.pop()

    def add_label(self, name):
        """Add a label, perhaps a local one; its full name."""
        if _is_local(name):
            full = self._local_name(name)
            self._define(full, None)
            return full
        _check_single(name)
        full = self._full_name(name)
        self._define(full, None)
        if "@" not in name:
            self._lasts[-1] = full
        return full

    def add_equation(self, name, tree):
        """Add an equation; its full name."""
        _check_single(name)
        if not isinstance(tree, Tree):
            raise BadTree(tree)
        full = self._full_name(name)
        self._check_free(full)
        if self._many_equations == MOST_EQUATIONS:
            raise TooLarge(MOST_EQUATIONS)
        self._define(full, (tree, self.place))
        self._many_equations += 1
        return full

    def add_import(self, path):
        """Add an import; its full name, which is the path itself."""
        if not is_used(path) or path.startswith(".") or _has_reserved(path):
            raise BadName(path)
        self._define(path, None)
        return path

    def tried(self, path, place):
        """Yield the full names that a path or a local name may stand for at a place."""
        yield from full_names(path, place)

    def search(self, path, place):
        """The full name that a path or a local name stands for at a place."""
        if not is_used(path):
            raise NoName(path)
        return found_name(path, place, self._known)

    def uses_of(self, path):
        """The tuple of the full names that an equation uses, ascending."""
        if not isinstance(path, str) or self._known.get(path) is None:
            raise NoName(path)
        used = self._found_in(path)
        return tuple(sorted(set(list(used.values()))))

    def least_ring(self):
        """The least ring of equations, () without one."""
        return least_ring_in(_among_equations(self._all_found()))

    def resolved(self):
        """The Resolved of all labels, equations and imports."""
        found, forms, refused = self._resolving()
        if refused:
            least = min(refused)
            # It is worked out once more, so that its error is the one that is raised.
            forms[least] = self._form_of(least, found[least], forms)
        return Resolved(forms)

    def least_refused(self):
        """The equation whose error resolved raises behind those of rings, None without one."""
        _, _, refused = self._resolving()
        return min(refused) if refused else None

    def _resolving(self):
        """What is found in the equations, the forms of all names that have one, and the equations that are refused."""
        found = self._all_found()
        uses = _among_equations(found)
        ordered = inner_first(uses)
        if len(ordered) < len(uses):
            raise Cycle(least_ring_in(uses))
        forms = {full: Linear.single(full) for full in self._known if full not in found}
        refused = []
        for full in ordered:
            if all([name in forms for name in uses[full]]):
                self._resolve(full, found[full], forms, refused)
        return found, forms, refused

    def _full_name(self, name):
        return ".".join([*self._scopes, name])

    def _local_name(self, name):
        if self._lasts[-1] is None:
            raise NoName(name)
        return self._lasts[-1] + name

    def _check_free(self, full):
        if full in self._known:
            raise Taken(full)

    def _define(self, full, what):
        self._check_free(full)
        self._known[full] = what

    def _found_in(self, full):
        """A dict from the names in the tree of an equation to the full names that they stand for."""
        tree, place = self._known[full]
        return {name: found_name(name, place, self._known) for name in tree.used}

    def _all_found(self):
        """A dict from the equations, as they were added, to what is found in them."""
        equations = [full for full, what in self._known.items() if what is not None]
        return {full: self._found_in(full) for full in equations}

    def _form_of(self, full, found, forms):
        tree, _ = self._known[full]
        return linear_of(tree, {name: forms[used] for name, used in found.items()})

    def _resolve(self, full, found, forms, refused):
        """Add the form of an equation to the forms, or the equation to those that are refused."""
        try:
            forms[full] = self._form_of(full, found, forms)
        except (ValueTrouble, LimitTrouble):
            refused.append(full)


class Resolved:
    """The forms of full names, over labels and imports."""

    def __init__(self, forms):
        self._forms = dict(forms)

    def __len__(self):
        return len(self._forms)

    def __contains__(self, path):
        return isinstance(path, str) and path in self._forms

    def __getitem__(self, path):
        if not isinstance(path, str) or path not in self._forms:
            raise NoName(path)
        return self._forms[path]

    def __iter__(self):
        raise TypeError("the forms are read by full names")

    def form_at(self, tree, place):
        """The form of a tree at a place."""
        if not isinstance(tree, Tree):
            raise BadTree(tree)
        return linear_of(tree, {name: self._forms[found_name(name, place, self._forms)] for name in tree.used})


def full_names(path, place):
    """The full names that a path or a local name may stand for at a place, in their order."""
    scope, last = place
    if path.startswith("."):
        return [] if last is None else [last + path]
    names = [path]
    outer = ""
    for part in scope.split("."):
        outer = outer + part + "."
        names.insert(0, outer + path)
    return names if scope != "" else [path]


def found_name(path, place, defined):
    """The first full name of those that is in a dict."""
    for full in full_names(path, place):
        if full in defined:
            return full
    raise NoName(path)


def _is_local(name):
    return is_used(name) and name.startswith(".") and not is_reserved(name[1:])


def _has_reserved(path):
    return any([is_reserved(part) for part in path.split(".")])


def _check_single(name):
    """BadName unless it is a name or a made name that is not reserved."""
    if not is_used(name) or "." in name or is_reserved(name):
        raise BadName(name)


def _among_equations(found):
    """A dict from the equations to lists of the equations that they use."""
    uses = {}
    for full, used in found.items():
        names = sorted(set(list(used.values())))
        uses[full] = [name for name in names if name in found]
    return uses
