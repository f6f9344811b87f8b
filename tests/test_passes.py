"""Passes, and choices that grow: [47], [49] to [51]."""

import itertools
import random

from helpers import Case
from macroasm.errors import BadNumber, OutOfRange
from macroasm.fragments import Alignment, Choice, Data, Gap, Section
from macroasm.layout import Layout
from macroasm.linear import Linear
from macroasm.tables import Table

JUMP = ("jump", (((1,), ("r1",)), ((2,), ("r4",))))
LOAD = ("load", (((3,), (("n", 0),)), ((4,), ("u1",)), ((5,), ("u2",)), ((6,), ("s4",))))
GO = ("go", (((7,), ("r1", "u1")), ((8,), ("r2", "u1")), ((9,), ("r2", "u2"))))
TABLE = Table(JUMP, LOAD, GO)
MOST = {"u1": (0, 255), "u2": (0, 65535), "s4": (-2 ** 31, 2 ** 31 - 1)}


def label(name):
    """The form of a label."""
    return Linear.single(name)


def laid(*fragments, labels, base=0):
    """The layout of one section, labels by the indexes of fragments."""
    return Layout((Section("main", *fragments),), {name: ("main", at) for name, at in labels.items()}, TABLE, base=base)


def jump(name):
    """A jump to a label."""
    return Choice("jump", (label(name),))


def size_of(form):
    """The number of the cells of a form."""
    return len(form[0]) + sum([0 if isinstance(field, tuple) else int(field[1]) for field in form[1]])


class Model:
    """Layouts by hand: one section, worked out from the front for each question."""

    def __init__(self, fragments, places, base):
        self.fragments = fragments
        self.places = places
        self.base = base
        self.choices = [at for at, part in enumerate(fragments) if isinstance(part, Choice)]

    def addresses(self, forms):
        """The addresses of the fragments and of the end."""
        most = max([part.amount for part in self.fragments if isinstance(part, Alignment)], default=1)
        at = self.base + -self.base % most
        found = [at]
        for index, part in enumerate(self.fragments):
            if isinstance(part, Choice):
                at += size_of(TABLE[part.name][forms[self.choices.index(index)]])
            elif isinstance(part, Alignment):
                at += -at % part.amount
            elif isinstance(part, Gap):
                at += part.amount
            else:
                at += len(part.contents)
            found.append(at)
        return found

    def fits(self, number, form, forms):
        """Whether a form of a choice fits at the addresses of all forms."""
        found = self.addresses(forms)
        values = {name: found[at] for name, at in self.places.items()}
        part = self.fragments[self.choices[number]]
        opcode_and_fields = TABLE[part.name][form]
        behind = found[self.choices[number]] + size_of(opcode_and_fields)
        for field, operand in zip(opcode_and_fields[1], part.operands):
            value = operand.constant + sum([many * values[name] for name, many in operand.pairs])
            if isinstance(field, tuple):
                fits = operand.is_plain and value == field[1]
            elif field[0] == "r":
                half = 256 ** int(field[1]) // 2
                fits = -half <= value - behind < half
            else:
                fits = MOST[field][0] <= value <= MOST[field][1]
            if not fits:
                return False
        return True

    def next_form(self, number, forms):
        """The form of a choice behind a pass."""
        many = len(TABLE[self.fragments[self.choices[number]].name])
        for form in range(forms[number], many):
            if self.fits(number, form, forms):
                return form
        return many - 1

    def passes(self):
        """The forms at the beginning of each pass."""
        found = [(0,) * len(self.choices)]
        while True:
            forms = tuple([self.next_form(number, found[-1]) for number in range(len(self.choices))])
            if forms == found[-1]:
                return found
            found.append(forms)

    def all_fit(self, forms):
        """Whether all choices fit."""
        return all([self.fits(number, form, forms) for number, form in enumerate(forms)])

    def grown(self, order):
        """The forms if choices grow one at a time."""
        forms = [0] * len(self.choices)
        while True:
            waiting = [number for number in order if self.next_form(number, forms) != forms[number]]
            if not waiting:
                return tuple(forms)
            forms[waiting[0]] = self.next_form(waiting[0], forms)


def random_model(chance, plain):
    """A row of fragments with labels; plain: as [50] wants them for the least layout."""
    fragments = []
    names = ["a", "b", "c"]
    for _ in range(chance.randint(1, 8)):
        one, other = label(chance.choice(names)), label(chance.choice(names))
        near = Linear(0) if plain else Linear(chance.randint(-90, 90))
        fragments.append(chance.choice([
            Choice("jump", (one + near,)), Choice("go", (one + near, Linear(chance.choice([0, 255, 256])))),
            Choice("load", (Linear(chance.choice([0, 1, 300, 70000])),)), Choice("load", (one + chance.randint(0, 200),)),
            Choice("load", (one + chance.randint(0, 200) if plain else one - other + near,)),
            Gap(chance.choice([0, 1, 90, 120, 124, 127, 240])), Data(1, 2, 3),
            Gap(1) if plain else Alignment(chance.choice([1, 2, 16, 64])),
        ]))
    places = {name: chance.randint(0, len(fragments)) for name in names}
    return Model(fragments, places, 0 if plain else chance.choice([0, 5, 100, 200]))


class Passes(Case):
    def test_the_example(self):
        for gap, form in ((127, 0), (128, 1)):
            layout = laid(jump("far"), Gap(gap), Data(7), labels={"far": 2})
            self.assertEqual(layout.form_of("main", 0), form)
        layout = laid(jump("far"), Gap(124), jump("far"), Gap(2), Data(7), labels={"far": 4})
        self.assertEqual(list(layout.passes()), [(0, 0), (1, 0)])
        self.assertEqual((layout.form_of("main", 0), layout.form_of("main", 2)), (1, 0))

    def test_choices_that_grow_by_each_other(self):
        layout = laid(jump("b"), jump("c"), Gap(126), Data(1), Gap(0), Data(1), labels={"b": 3, "c": 4})
        self.assertEqual(list(layout.passes()), [(0, 0), (1, 0)])
        layout = laid(jump("c"), jump("b"), Gap(125), Data(1), Gap(1), labels={"b": 4, "c": 3})
        self.assertEqual(list(layout.passes()), [(0, 0)])
        layout = laid(jump("b"), jump("c"), Gap(124), Data(1), Gap(3), labels={"b": 3, "c": 5})
        self.assertEqual(list(layout.passes()), [(0, 0), (0, 1), (1, 1)])

    def test_forms_that_are_skipped(self):
        layout = laid(Choice("load", (Linear(70000),)), Choice("load", (Linear(300),)), labels={})
        self.assertEqual(list(layout.passes()), [(0, 0), (3, 2)])
        layout = laid(Choice("go", (label("a"), Linear(256))), Data(1), labels={"a": 1})
        self.assertEqual(list(layout.passes()), [(0,), (2,)])

    def test_all_look_at_the_same_addresses(self):
        layout = laid(jump("a"), jump("a"), Gap(126), Data(1), labels={"a": 3})
        self.assertEqual(list(layout.passes()), [(0, 0), (1, 0)])
        layout = laid(jump("a"), jump("a"), Gap(128), Data(1), labels={"a": 3})
        self.assertEqual(list(layout.passes()), [(0, 0), (1, 1)])

    def test_choices_that_end_in_their_last_form(self):
        self.refused(OutOfRange, ("main", 1), laid, Gap(1), Choice("go", (label("a"), Linear(65536))), labels={"a": 0})
        self.refused(OutOfRange, ("main", 0), laid, Choice("load", (Linear(2 ** 31),)), labels={})
        self.refused(OutOfRange, ("main", 0), laid, Choice("jump", (Linear(2 ** 40),)), labels={})

    def test_a_form_that_has_grown_stays(self):
        # Behind the growth the operand would fit the first form again.
        layout = laid(Choice("load", (300 - 45 * label("a"),)), Gap(1), labels={"a": 1})
        self.assertEqual(list(layout.passes()), [(0,), (1,)])
        layout = laid(Choice("load", (256 + label("b") - label("a"),)), Alignment(4), labels={"a": 1, "b": 2})
        self.assertEqual(list(layout.passes()), [(0,), (2,)])

    def test_by_the_model(self):
        chance = random.Random(11)
        for _ in range(400):
            model = random_model(chance, False)
            try:
                layout = laid(*model.fragments, labels=model.places, base=model.base)
            except OutOfRange:
                self.assertFalse(model.all_fit(model.passes()[-1]))
                continue
            passes = model.passes()
            self.assertEqual(list(layout.passes()), passes)
            self.assertEqual([layout.spot("main", at) for at in range(len(model.fragments) + 1)], model.addresses(passes[-1]))
            self.assertTrue(model.all_fit(passes[-1]))
            many = sum([len(TABLE[model.fragments[at].name]) - 1 for at in model.choices])
            self.assertLessEqual(len(passes), 1 + many)


class Growing(Case):
    def test_fits(self):
        layout = laid(jump("far"), Gap(124), jump("far"), Gap(2), Data(7), labels={"far": 4})
        for forms, wanted in (((0, 0), False), ((1, 0), True), ((0, 1), False), ((1, 1), True)):
            self.assertEqual(layout.fits(forms), wanted)
        for wrong in (None, 5, [1, 0], (), (1,), (1, 0, 0), (2, 0), (1, -1), (True, False), (1, None), ("1", 0), (1, (0,)), {}):
            self.assertIs(layout.fits(wrong), False)
        self.assertTrue(laid(Data(1), labels={}).fits(()))

    def test_grown(self):
        layout = laid(jump("far"), Gap(124), jump("far"), Gap(2), Data(7), labels={"far": 4})
        for order in ((0, 1), (1, 0), (0, 0, 1), (1, 1, 0, 1)):
            self.assertEqual(layout.grown(order), (1, 0))
        self.assertEqual(laid(Data(1), labels={}).grown(()), ())

    def test_wrong_orders(self):
        layout = laid(jump("a"), jump("a"), labels={"a": 0})
        for wrong in (None, 5, [0, 1], (), (0,), (1, 1), (0, 2), (-1, 0), (0, 1, 2), (0, 1, -1), (0, True), (False, True), (0, None), ("0", 1), "01"):
            self.refused(BadNumber, (wrong,), layout.grown, wrong)
        self.refused(BadNumber, ((0,),), laid(Data(1), labels={}).grown, (0,))

    def test_by_the_model(self):
        chance = random.Random(12)
        for _ in range(150):
            model = random_model(chance, False)
            try:
                layout = laid(*model.fragments, labels=model.places, base=model.base)
            except OutOfRange:
                continue
            order = list(range(len(model.choices))) + [number for number in range(len(model.choices)) if chance.random() < 0.3]
            chance.shuffle(order)
            self.assertEqual(layout.grown(tuple(order)), model.grown(order))
            for _ in range(5):
                forms = tuple([chance.randrange(len(TABLE[model.fragments[at].name])) for at in model.choices])
                self.assertEqual(layout.fits(forms), model.all_fit(forms))

    def test_the_least_layout(self):
        chance = random.Random(13)
        for _ in range(60):
            model = random_model(chance, True)
            if len(model.choices) > 4:
                continue
            ranges = [range(len(TABLE[model.fragments[at].name])) for at in model.choices]
            fitting = [forms for forms in itertools.product(*ranges) if model.all_fit(forms)]
            if not fitting:
                continue
            layout = laid(*model.fragments, labels=model.places)
            least = list(layout.passes())[-1]
            self.assertIn(least, fitting)
            for forms in fitting:
                self.assertTrue(all([one <= other for one, other in zip(least, forms)]))
            for order in itertools.permutations(range(len(model.choices))):
                self.assertEqual(layout.grown(order), least)

    def test_other_bases(self):
        fragments = (
            Choice("jump", (label("a") + 3,)), Choice("load", (label("b") - label("a"),)), Alignment(16), Gap(120),
            Choice("go", (2 * label("a") - label("b"), label("c") - label("b"))), Alignment(64), Choice("load", (Linear(300),)),
        )
        labels = {"a": 1, "b": 4, "c": 7}
        wanted = list(laid(*fragments, labels=labels, base=5).passes())
        for base in (5 + 64, 5 + 640, 5 + 64 * 1000):
            self.assertEqual(list(laid(*fragments, labels=labels, base=base).passes()), wanted)
