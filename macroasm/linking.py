"""Texts that become objects, and objects that become images."""

from macroasm.assembling import object_of
from macroasm.errors import Unresolved
from macroasm.expanding import expanded
from macroasm.images import Image
from macroasm.layout import GrowingLayout, Layout
from macroasm.objects import joined


def assembled(text, table, *, name="main"):
    """The object of a text."""
    return object_of(expanded(text, source=name), table)


def link(objects, table, *, base=0):
    """The image of the objects in a tuple."""
    whole = _resolved_whole(objects)
    return Image(whole, Layout(_sections_of(whole), _places_of(whole), table, base=base))


def steps(objects, table, *, base=0):
    """Yield steps that are enough, triples (section, index, form)."""
    whole = _resolved_whole(objects)
    layout = GrowingLayout(_sections_of(whole), _places_of(whole), table, base=base)
    yield from layout.steps_one_by_one()


def explains(objects, table, rows, *, base=0):
    """Whether a value is a tuple of steps that are enough."""
    whole = _resolved_whole(objects)
    layout = GrowingLayout(_sections_of(whole), _places_of(whole), table, base=base)
    return layout.is_explained_by(rows)


def _resolved_whole(objects):
    """The objects joined; Unresolved for imports that are left."""
    whole = joined(objects)
    if whole.imports:
        raise Unresolved(whole.imports)
    return whole


def _sections_of(whole):
    return tuple([whole[name] for name in whole.sections])


def _places_of(whole):
    return {label: whole.place_of(label) for label in whole.labels}
